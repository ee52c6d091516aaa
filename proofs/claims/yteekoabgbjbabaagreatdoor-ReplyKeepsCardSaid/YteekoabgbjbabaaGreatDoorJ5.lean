import Derived.Test.YteekoabgbjbabaaGreatDoorL0
import Derived.Test.YteekoabgbjbabaaGreatDoorY3
import Derived.Test.YteekoabgbjbabaaGreatDoorJ0
namespace Go.Proofs.YteekoabgbjbabaaGreatDoor.Aes
open Go.RowKit Gf8
/- Arrays of n bytes as rows of memory. -/

theorem size16 (f : Nat → Nat) : (Tryz.prog.info? 35).map (·.size) = some (bA 16 f).size := by rw [bA_size]; kernel_rfl
theorem size176 (f : Nat → Nat) : (Tryz.prog.info? 94).map (·.size) = some (bA 176 f).size := by rw [bA_size]; kernel_rfl
theorem zero16 : ∀ w, (zeroValue 35).run Tryz.prog w = .ok (.agg (bA 16 fun _ => 0)) w :=
  (zero_of_info (n := 16) (by kernel_rfl)).1
theorem zero176 : ∀ w, (zeroValue 94).run Tryz.prog w = .ok (.agg (bA 176 fun _ => 0)) w :=
  (zero_of_info (n := 176) (by kernel_rfl)).1
section
variable {o : Oper} {a : Act} {w : World}
theorem execIdx16 {x i : Operand} {g k : Nat} (ho : o.op = .indexAddr 35 x i) (hx : a.eval x = .pointer (some ⟨g, 0, none⟩)) (hi : a.eval i = .int .i64 (k : Int)) (hk : k < 16) : (execOp a.eval o).run Tryz.prog w = .ok (.value (.pointer (some ⟨g, k, none⟩))) w := by
  have h1 : (k : Int) < 16 := by omega
  unfold execOp
  simp only [ho, hx, hi]
  simp [go_sem, h1]
theorem execIdx176 {x i : Operand} {g k : Nat} (ho : o.op = .indexAddr 94 x i) (hx : a.eval x = .pointer (some ⟨g, 0, none⟩)) (hi : a.eval i = .int .i64 (k : Int)) (hk : k < 176) : (execOp a.eval o).run Tryz.prog w = .ok (.value (.pointer (some ⟨g, k, none⟩))) w := by
  have h1 : (k : Int) < 176 := by omega
  unfold execOp
  simp only [ho, hx, hi]
  simp [go_sem, h1]
end
end Go.Proofs.YteekoabgbjbabaaGreatDoor.Aes

namespace Go.Proofs.YteekoabgbjbabaaGreatDoor.Aes
open Go.RowKit Gf8

theorem twice_all : ∀ a : Fin 256, (a.val ≥ 128 → (a.val * 2 % 256) ^^^ 27 = xt a.val) ∧ (¬ a.val ≥ 128 → a.val * 2 = xt a.val) := by decide +kernel
set_option maxRecDepth 20000 in
theorem twice_any (a : Nat) (w : World) (ha : a < 256) :
    Calls Tryz.prog 79 #[.int .u8 a] w fun e w' => e = .returned (.int .u8 (xt a : Nat)) ∧ w' = w := by
  by_cases h : a ≥ 128
  · have h1 : (a : Int) ≥ 128 := by omega
    have e := (twice_all ⟨a, ha⟩).1 h
    simp only at e
    have q : Hid (bits .xor .u8 ((a : Int) * 2 % 256) 27 = ((xt a : Nat) : Int)) := by
      show bits .xor .u8 ((a : Int) * 2 % 256) 27 = ((xt a : Nat) : Int)
      rw [show ((a : Int) * 2 % 256) = ((a * 2 % 256 : Nat) : Int) by omega, show (27 : Int) = ((27 : Nat) : Int) from rfl, xor_u8 (by omega) (by omega), e]
    clear e h
    go_enter Tryz.func79, Tryz.ntmps79
    go_wp2
    go_ret
    exact ⟨congrArg (fun x => Ending.returned (Value.int .u8 x)) q.out, rfl⟩
  · have h1 : ¬ (a : Int) ≥ 128 := by omega
    have e := (twice_all ⟨a, ha⟩).2 h
    simp only at e
    have q : Hid ((a : Int) * 2 = ((xt a : Nat) : Int)) := by
      show (a : Int) * 2 = ((xt a : Nat) : Int)
      rw [← e]; omega
    clear e h
    go_enter Tryz.func79, Tryz.ntmps79
    go_wp2
    go_ret
    exact ⟨congrArg (fun x => Ending.returned (Value.int .u8 x)) q.out, rfl⟩

/-- What each operation of 'b[j] ^= w[16*i+j]' yields. -/
def adV (A i k : Nat) (b w : Nat → Nat) (j : Nat) : Value :=
  match j with
  | 0 => .int .i64 k | 1 => .pointer (some ⟨A, k, none⟩) | 2 => .int .u8 (b k) | 3 => .int .i64 i | 4 => .int .i64 (16 * i : Nat) | 5 => .int .i64 k | 6 => .int .i64 (16 * i + k : Nat) | 7 => .pointer (some ⟨A + 1, 16 * i + k, none⟩)
  | 8 => .int .u8 (w (16 * i + k)) | 9 => .int .u8 (addR w b i k : Nat) | 10 => .pointer (some ⟨A, k, none⟩) | _ => undef
structure AdT (A i k : Nat) (b w : Nat → Nat) (V : World) (l : Nat → Bool) (W : World) : Prop where
  b : W.heap[A]? = some (.cells (bA 16 (mixU (addR w b i) b (if l 11 = true then k + 1 else k))) 35)
  w : W.heap[A + 1]? = some (.cells (bA 176 w) 94)
  r : W.heap[A + 2]? = some (.cells (bA 16 fun _ => 0) 35)
  bel : Below A V W

set_option maxRecDepth 20000 in
set_option maxHeartbeats 400000 in
theorem added_any (b w : Nat → Nat) (i : Nat) (V : World) (hb : By b) (hw : ∀ i, i < 176 → w i < 256) (hi : i < 11) :
    Calls Tryz.prog 80 #[.agg (bA 16 b), .agg (bA 176 w), .int .i64 i] V fun e w' => e = .returned (.agg (bA 16 (addR w b i))) ∧ Below V.heap.size V w' := by
  have HB : Hid (_) := hb
  have HW : Hid (∀ i, i < 176 → w i < 256) := hw
  have HI : Hid (_) := hi
  clear hb hw hi
  have z := zero16
  go_enter Tryz.func80, Tryz.ntmps80
  go_wp2_with fail
  have t0 : AdT V.heap.size i 0 b w V (fun _ => false) (((V.alloc (.cells (bA 16 b) 35)).alloc (.cells (bA 176 w) 94)).alloc (.cells (bA 16 fun _ => 0) 35)) := by
    have h := heap3c V (.cells (bA 16 b) 35) (.cells (bA 176 w) 94) (.cells (bA 16 fun _ => 0) 35)
    exact ⟨h.1, h.2.1, h.2.2, below3c _ _ _ _⟩
  obtain ⟨A, hA⟩ : ∃ A, A = V.heap.size := ⟨_, rfl⟩
  rw [← hA] at t0 ⊢
  have VA : Hid (V.heap.size = A) := hA.symm
  have T0 : Hid (_) := t0
  clear z t0 hA
  rw [show A + 1 + 1 = A + 2 from rfl]
  go_loopw [7] (fun x W => ∃ k : Nat, k ≤ 16 ∧ x = .int .i64 k ∧ AdT A i k b w V (fun _ => false) W) (fun x _ => 16 - (intOf x).toNat)
  case atStart => exact ⟨0, by omega, rfl, T0.out⟩
  case round =>
    obtain ⟨k, hk, rfl, kt⟩ := hrel
    have KT : Hid (_) := kt
    clear kt T0
    by_cases hlt : k < 16
    · have i1 : (k : Int) < 16 := by omega
      have HL : Hid (k < 16) := hlt
      clear hlt hk
      go_wp2_with fail
      refine wp_region_det 24 [(0, 12), (1, 13), (2, 14), (3, 15), (4, 16), (5, 17), (6, 18), (7, 19), (8, 20), (9, 21), (10, 22)] (adV A i k b w) (AdT A i k b w V) (by kernel_rfl) (by kernel_rfl) rfl (by kernel_rfl) (by decide) (by decide) ?_ ?_ ?_
      · exact ⟨KT.out.b, KT.out.w, KT.out.r, KT.out.bel.drew⟩
      · intro j hj l a W hl hf hdep hl2 hcl _ hT
        have lk := HL.out
        have li := HI.out
        match j, hj with
        | 0, _ => exact stepV rfl rfl (execMvB rfl (hf 7 (by decide))) ⟨⟨_, rfl, rfl⟩, ⟨hT.b, hT.w, hT.r, hT.bel⟩⟩
        | 1, _ => exact stepV rfl rfl (execIdx16 rfl (hf 3 (by decide)) (hdep _ rfl 0 rfl _ rfl _ rfl) lk) ⟨⟨_, rfl, rfl⟩, ⟨hT.b, hT.w, hT.r, hT.bel⟩⟩
        | 2, _ =>
          have n11 : l 11 = false := by
            cases h : l 11 with
            | false => rfl
            | true =>
              have := hcl 9 _ rfl (hcl 11 _ rfl h 9 rfl) 2 rfl
              rw [hl] at this
              cases this
          have ge := hT.b
          rw [n11, if_neg (by decide)] at ge
          refine stepV rfl rfl (execLdB rfl (hdep _ rfl 1 rfl _ rfl _ rfl) (cellN ge lk)) ⟨⟨_, rfl, congrArg (fun z : Nat => Act.put a _ (.int .u8 z)) ?_⟩, ⟨hT.b, hT.w, hT.r, hT.bel⟩⟩
          unfold mixU; rw [if_neg (by omega)]
        | 3, _ => exact stepV rfl rfl (execMvB rfl (hf 2 (by decide))) ⟨⟨_, rfl, rfl⟩, ⟨hT.b, hT.w, hT.r, hT.bel⟩⟩
        | 4, _ => exact stepV rfl rfl (execMulI (p := 16) rfl rfl (hdep _ rfl 3 rfl _ rfl _ rfl) (by omega)) ⟨⟨_, rfl, rfl⟩, ⟨hT.b, hT.w, hT.r, hT.bel⟩⟩
        | 5, _ => exact stepV rfl rfl (execMvB rfl (hf 7 (by decide))) ⟨⟨_, rfl, rfl⟩, ⟨hT.b, hT.w, hT.r, hT.bel⟩⟩
        | 6, _ => exact stepV rfl rfl (execAddI rfl (hdep _ rfl 4 rfl _ rfl _ rfl) (hdep _ rfl 5 rfl _ rfl _ rfl) (by omega)) ⟨⟨_, rfl, rfl⟩, ⟨hT.b, hT.w, hT.r, hT.bel⟩⟩
        | 7, _ => exact stepV rfl rfl (execIdx176 rfl (hf 4 (by decide)) (hdep _ rfl 6 rfl _ rfl _ rfl) (by omega)) ⟨⟨_, rfl, rfl⟩, ⟨hT.b, hT.w, hT.r, hT.bel⟩⟩
        | 8, _ => exact stepV rfl rfl (execLdB rfl (hdep _ rfl 7 rfl _ rfl _ rfl) (cellN hT.w (by omega))) ⟨⟨_, rfl, rfl⟩, ⟨hT.b, hT.w, hT.r, hT.bel⟩⟩
        | 9, _ => exact stepV rfl rfl (execXor5 rfl (hdep _ rfl 2 rfl _ rfl _ rfl) (hdep _ rfl 8 rfl _ rfl _ rfl) (HB.out k lk) (HW.out _ (by omega))) ⟨⟨_, rfl, rfl⟩, ⟨hT.b, hT.w, hT.r, hT.bel⟩⟩
        | 10, _ => exact stepV rfl rfl (execIdx16 rfl (hf 3 (by decide)) (hdep _ rfl 0 rfl _ rfl _ rfl) lk) ⟨⟨_, rfl, rfl⟩, ⟨hT.b, hT.w, hT.r, hT.bel⟩⟩
        | 11, _ =>
          have ge := hT.b
          rw [hl, if_neg (by decide)] at ge
          refine stepS rfl rfl (execStB rfl (hdep _ rfl 10 rfl _ rfl _ rfl) (hdep _ rfl 9 rfl _ rfl _ rfl) (cellN ge lk) (frozen4 ge)) ⟨⟨_, rfl, rfl⟩, ⟨?_, ?_, ?_, hT.bel.setCell (Nat.le_refl _) _⟩⟩
          · rw [heap4 _ ge]; exact congrArg (fun z => some (Obj.cells z 35)) ((bA_set 16 _ k _).trans (congrArg (bA 16) (updN_mixU (addR w b i) b k)))
          · rw [heap4o _ ge (by omega)]; exact hT.w
          · rw [heap4o _ ge (by omega)]; exact hT.r
        | n + 12, h => exact absurd h (by simp)
      · intro l W hall hT
        have he := hT.b
        rw [hall 11 (by simp), if_pos rfl] at he
        have KT2 : Hid (AdT A i (k + 1) b w V (fun _ => false) W) := ⟨he, hT.w, hT.r, hT.bel⟩
        clear hall hT he KT
        simp only [putP, adV, Act.put, List.setIfInBounds_toArray, List.set_cons_succ, List.set_cons_zero]
        go_wp2
        go_roundw
        case rel => exact ⟨k + 1, by have := HL.out; omega, by go_num, KT2.out⟩
        case measure => have := HL.out; simp [intOf]; omega
    · have i1 : ¬ (k : Int) < 16 := by omega
      have ek : k = 16 := by omega
      subst ek
      have G : Hid (wr.heap[A]? = some (.cells (bA 16 (addR w b i)) 35)) := by
        have h := KT.out.b
        rw [if_neg (by decide)] at h
        rw [bA_congr (g := addR w b i) (fun j hj => by unfold mixU; rw [if_pos hj])] at h
        exact h
      go_wp2_with (first
        | (refine atLoad 35 (.tmp 3) rfl ?_; go_must (refine wpList_load_row rfl 35 (.tmp 3) rfl A rfl 35 _ (0, 0) _ G.out Tryz.underlying35 rfl (size16 _) ?_; simp only [Act.put, List.setIfInBounds_toArray, List.set_cons_succ, List.set_cons_zero]))
        | (refine atStore 35 (.tmp 6) (.tmp 23) rfl ?_; go_must (refine wpList_store_row rfl 35 (.tmp 6) (.tmp 23) rfl (A + 2) _ rfl rfl 35 _ KT.out.r (size16 _) rfl (bA_one _ _) ?_)))
      refine bodyPost_ret (v := .agg (bA 16 (addR w b i))) (results_cell_row Tryz.results80 _ _ (A + 2) 35 _ (0, 0) _ rfl (setRow_heap _ _ _ _ _ _ KT.out.r) Tryz.underlying35 rfl (size16 _)) rfl ⟨rfl, ?_⟩
      rw [VA.out]
      exact below4 KT.out.bel (by omega) _
end Go.Proofs.YteekoabgbjbabaaGreatDoor.Aes

namespace Go.Proofs.YteekoabgbjbabaaGreatDoor.Aes
open Go.RowKit Gf8

/-- The substitution as the reference holds it. -/
def boxT : ByteArray := ⟨#[99, 124, 119, 123, 242, 107, 111, 197, 48, 1, 103, 43, 254, 215, 171, 118, 202, 130, 201, 125, 250, 89, 71, 240, 173, 212, 162, 175, 156, 164, 114, 192, 183, 253, 147, 38, 54, 63, 247, 204, 52, 165, 229, 241, 113, 216, 49, 21, 4, 199, 35, 195, 24, 150, 5, 154, 7, 18, 128, 226, 235, 39, 178, 117, 9, 131, 44, 26, 27, 110, 90, 160, 82, 59, 214, 179, 41, 227, 47, 132, 83, 209, 0, 237, 32, 252, 177, 91, 106, 203, 190, 57, 74, 76, 88, 207, 208, 239, 170, 251, 67, 77, 51, 133, 69, 249, 2, 127, 80, 60, 159, 168, 81, 163, 64, 143, 146, 157, 56, 245, 188, 182, 218, 33, 16, 255, 243, 210, 205, 12, 19, 236, 95, 151, 68, 23, 196, 167, 126, 61, 100, 93, 25, 115, 96, 129, 79, 220, 34, 42, 144, 136, 70, 238, 184, 20, 222, 94, 11, 219, 224, 50, 58, 10, 73, 6, 36, 92, 194, 211, 172, 98, 145, 149, 228, 121, 231, 200, 55, 109, 141, 213, 78, 169, 108, 86, 244, 234, 101, 122, 174, 8, 186, 120, 37, 46, 28, 166, 180, 198, 232, 221, 116, 31, 75, 189, 139, 138, 112, 62, 181, 102, 72, 3, 246, 14, 97, 53, 87, 185, 134, 193, 29, 158, 225, 248, 152, 17, 105, 217, 142, 148, 155, 30, 135, 233, 206, 85, 40, 223, 140, 161, 137, 13, 191, 230, 66, 104, 65, 153, 45, 15, 176, 84, 187, 22]⟩
theorem boxT_size : boxT.size = 256 := by decide +kernel
theorem box_all : ∀ j : Fin 256, (boxT[j.val]'(by rw [boxT_size]; exact j.isLt)).toNat = gsub j.val := by decide +kernel
theorem box_at {k : Nat} (h : k < 256) : (boxT[k]'(by rw [boxT_size]; exact h)).toNat = gsub k := box_all ⟨k, h⟩
section
variable {ops : Array Oper} {rest : List Oper} {o : Oper} {a : Act} {w : World} {Q : Exit → Act → World → Prop}
theorem execBoxU {x : Operand} {k : Nat} (ho : o.op = .index 9 (.const (.string boxT)) x) (hx : a.eval x = .int .u8 (k : Int)) (hk : k < 256) : (execOp a.eval o).run Tryz.prog w = .ok (.value (.int .u8 (gsub k : Nat))) w := by
  have h1 : k < boxT.size := by rw [boxT_size]; exact hk
  have h2 := box_at hk
  unfold execOp
  simp only [ho, hx]
  simp [go_sem, h1, Act.eval]
  rw [← h2]
theorem wpList_boxU {x : Operand} {k : Nat} (hw : Region.wanted o (yielded ops a.tmps) = true) (ho : o.op = .index 9 (.const (.string boxT)) x) (hx : a.eval x = .int .u8 (k : Int)) (hk : k < 256)
    (h : wpList Tryz.prog ops Q rest (a.put o.dst (.int .u8 (gsub k : Nat))) w) : wpList Tryz.prog ops Q (o :: rest) a w :=
  BigFrame.wpList_want hw fun K hK => by unfold Oper.wp; rw [execBoxU ho hx hk]; exact hK _ _ h
theorem atBox {P : Program} (x : Operand) (_ : o.op = .index 9 (.const (.string boxT)) x) (h : wpList P ops Q (o :: rest) a w) : wpList P ops Q (o :: rest) a w := h
end
theorem zero256 : ∀ w, (zeroValue 112).run Tryz.prog w = .ok (.agg (bA 256 fun _ => 0)) w :=
  (zero_of_info (n := 256) (by kernel_rfl)).1
/-- The table the other way round, of the first k. -/
def bkF (k : Nat) : Nat → Nat := fun x => if guns x < k then guns x else 0

end Go.Proofs.YteekoabgbjbabaaGreatDoor.Aes

namespace Go.Proofs.YteekoabgbjbabaaGreatDoor.Aes
open Go.RowKit Gf8

/-- The number behind n, its last m bytes laid. -/
def nxF (n m : Nat) : Nat → Nat := fun j => if 16 ≤ j + m then be (n + 1) j else be n j
theorem nxF_step (n : Nat) {m : Nat} (h : m < 16) : updN (nxF n m) (15 - m) (be (n + 1) (15 - m)) = nxF n (m + 1) := by
  funext j
  unfold updN nxF
  by_cases e : j = 15 - m
  · subst e; rw [if_pos rfl, if_pos (by omega)]
  · rw [if_neg e]
    by_cases h2 : 16 ≤ j + m
    · rw [if_pos h2, if_pos (by omega)]
    · rw [if_neg h2, if_neg (by omega)]
theorem nxF_done {n m : Nat} (h : ¬ 256 ^ m ∣ n + 1) : Eq16 (nxF n m) (be (n + 1)) := fun j hj => by
  unfold nxF
  by_cases h2 : 16 ≤ j + m
  · rw [if_pos h2]
  · rw [if_neg h2, be_next, if_neg (carry_less h (by omega))]
theorem nxF_all (n : Nat) : Eq16 (nxF n 16) (be (n + 1)) := fun j _ => by unfold nxF; rw [if_pos (by omega)]

set_option maxRecDepth 20000 in
set_option maxHeartbeats 400000 in
theorem next_any (n : Nat) (V : World) :
    Calls Tryz.prog 66 #[.agg (bA 16 (be n))] V fun e w' => e = .returned (.agg (bA 16 (be (n + 1)))) ∧ Below V.heap.size V w' := by
  have z := zero16
  go_enter Tryz.func66, Tryz.ntmps66
  go_wp2_with fail
  clear z
  have hs : ∀ (v : World) (o : Obj), (v.alloc o).heap = v.heap.push o := fun _ _ => rfl
  have T0 : Hid (((V.alloc (.cells (bA 16 (be n)) 35)).alloc (.cells (bA 16 fun _ => 0) 35)).heap[V.heap.size]? = some (.cells (bA 16 (nxF n 0)) 35) ∧ ((V.alloc (.cells (bA 16 (be n)) 35)).alloc (.cells (bA 16 fun _ => 0) 35)).heap[V.heap.size + 1]? = some (.cells (bA 16 fun _ => 0) 35)) := by
    refine ⟨?_, ?_⟩
    · simp only [hs, Array.getElem?_push, Array.size_push]; rw [if_neg (by omega), if_pos trivial, bA_congr (f := nxF n 0) (g := be n) (fun j hj => by unfold nxF; rw [if_neg (by omega)])]
    · simp only [hs, Array.getElem?_push, Array.size_push]; rw [if_pos trivial]
  clear hs
  go_loopw [3] (fun x W => ∃ m : Nat, m ≤ 16 ∧ x = .int .i64 (15 - (m : Int)) ∧ 256 ^ m ∣ n + 1 ∧ W.heap[V.heap.size]? = some (.cells (bA 16 (nxF n m)) 35) ∧ W.heap[V.heap.size + 1]? = some (.cells (bA 16 fun _ => 0) 35) ∧ Below V.heap.size V W) (fun x _ => (intOf x + 1).toNat)
  case atStart => exact ⟨0, by omega, rfl, by simp, T0.out.1, T0.out.2, ((Below.refl _ _).alloc (Nat.le_refl _) _).alloc (by simp) _⟩
  case round =>
    obtain ⟨m, hm, rfl, hd, g1, g2, bel⟩ := hrel
    have G1 : Hid (_) := g1
    have G2 : Hid (_) := g2
    have HD : Hid (256 ^ m ∣ n + 1) := hd
    have BL : Hid (Below V.heap.size V wr) := bel
    clear g1 g2 bel T0 hd
    by_cases hlt : m < 16
    · obtain ⟨i, hi⟩ : ∃ i, 15 - m = i := ⟨_, rfl⟩
      have e0 : 15 - (m : Int) = (i : Int) := by omega
      have i1 : (i : Int) ≥ 0 := by omega
      have i2 : (i : Int) < 16 := by omega
      have hi16 : i < 16 := by omega
      obtain ⟨y, hy⟩ : ∃ y, be n i = y := ⟨_, rfl⟩
      obtain ⟨x, hx⟩ : ∃ x, be (n + 1) i = x := ⟨_, rfl⟩
      have x1 : x < 256 := by rw [← hx]; exact be_by _ i hi16
      have exy : ((y : Int) + 1) % 256 = (x : Int) := by
        have := be_next n i
        rw [if_pos (by rw [show 15 - i = m by omega]; exact HD.out), hy, hx] at this
        omega
      have c1 : wr.cell? ⟨V.heap.size, i, none⟩ = some (.int .u8 y) := by
        rw [cellN G1.out hi16]
        unfold nxF
        rw [if_neg (by omega), hy]
      have c2 : wr.frozen? ⟨V.heap.size, i, none⟩ = false := frozen4 G1.out
      have R1 : Hid ((wr.setCell ⟨V.heap.size, i, none⟩ (.int .u8 x)).heap[V.heap.size]? = some (.cells (bA 16 (nxF n (m + 1))) 35)) := by
        show (wr.setCell ⟨V.heap.size, i, none⟩ (.int .u8 x)).heap[V.heap.size]? = _
        rw [heap4 _ G1.out, bA_set, ← hx, ← hi, nxF_step n hlt]
      have R2 : Hid ((wr.setCell ⟨V.heap.size, i, none⟩ (.int .u8 x)).heap[V.heap.size + 1]? = some (.cells (bA 16 fun _ => 0) 35)) := by
        show (wr.setCell ⟨V.heap.size, i, none⟩ (.int .u8 x)).heap[V.heap.size + 1]? = _
        rw [heap4o _ G1.out (by omega)]; exact G2.out
      have R3 : Hid (Below V.heap.size V (wr.setCell ⟨V.heap.size, i, none⟩ (.int .u8 x))) := BL.out.setCell (Nat.le_refl _) _
      have c3 : (wr.setCell ⟨V.heap.size, i, none⟩ (.int .u8 x)).cell? ⟨V.heap.size, i, none⟩ = some (.int .u8 x) := by
        rw [cellN R1.out hi16]
        unfold nxF
        rw [if_pos (by omega), hx]
      have CM : Hid (256 ^ (m + 1) ∣ n + 1 ↔ x = 0) := by
        show 256 ^ (m + 1) ∣ n + 1 ↔ x = 0
        rw [carry_more n m HD.out, ← hx]
        unfold be
        rw [show 15 - i = m by omega]
      rw [e0]
      clear hi hy hx hm
      by_cases h0 : x = 0
      · have z0 : ((x : Int) != 0) = false := by simp [h0]
        have H0 : Hid (x = 0) := h0
        clear h0
        go_wp2
        go_roundw
        case rel => exact ⟨m + 1, by omega, by go_num, CM.out.2 H0.out, R1.out, R2.out, R3.out⟩
        case measure => simp [intOf]
      · have z0 : ((x : Int) != 0) = true := by simp [h0]
        have R4 : Hid ((wr.setCell ⟨V.heap.size, i, none⟩ (.int .u8 x)).heap[V.heap.size]? = some (.cells (bA 16 (be (n + 1))) 35)) := by
          have h := R1.out
          rw [bA_congr (nxF_done (fun e => h0 (CM.out.1 e)))] at h
          exact h
        go_wp2_with (first
          | (refine atLoad 35 (.tmp 1) rfl ?_; go_must (refine wpList_load_row rfl 35 (.tmp 1) rfl V.heap.size rfl 35 _ (0, 0) _ R4.out Tryz.underlying35 rfl (size16 _) ?_; simp only [Act.put, List.setIfInBounds_toArray, List.set_cons_succ, List.set_cons_zero]))
          | (refine atStore 35 (.tmp 2) (.tmp 17) rfl ?_; go_must (refine wpList_store_row rfl 35 (.tmp 2) (.tmp 17) rfl (V.heap.size + 1) _ rfl rfl 35 _ R2.out (size16 _) rfl (bA_one _ _) ?_)))
        refine bodyPost_ret (v := .agg (bA 16 (be (n + 1)))) (results_cell_row Tryz.results66 _ _ (V.heap.size + 1) 35 _ (0, 0) _ rfl (setRow_heap _ _ _ _ _ _ R2.out) Tryz.underlying35 rfl (size16 _)) rfl ⟨rfl, ?_⟩
        exact below4 R3.out (by omega) _
    · have em : m = 16 := by omega
      subst em
      have R4 : Hid (wr.heap[V.heap.size]? = some (.cells (bA 16 (be (n + 1))) 35)) := by
        have h := G1.out
        rw [bA_congr (nxF_all n)] at h
        exact h
      go_wp2_with (first
        | (refine atLoad 35 (.tmp 1) rfl ?_; go_must (refine wpList_load_row rfl 35 (.tmp 1) rfl V.heap.size rfl 35 _ (0, 0) _ R4.out Tryz.underlying35 rfl (size16 _) ?_; simp only [Act.put, List.setIfInBounds_toArray, List.set_cons_succ, List.set_cons_zero]))
        | (refine atStore 35 (.tmp 2) (.tmp 18) rfl ?_; go_must (refine wpList_store_row rfl 35 (.tmp 2) (.tmp 18) rfl (V.heap.size + 1) _ rfl rfl 35 _ G2.out (size16 _) rfl (bA_one _ _) ?_)))
      refine bodyPost_ret (v := .agg (bA 16 (be (n + 1)))) (results_cell_row Tryz.results66 _ _ (V.heap.size + 1) 35 _ (0, 0) _ rfl (setRow_heap _ _ _ _ _ _ G2.out) Tryz.underlying35 rfl (size16 _)) rfl ⟨rfl, ?_⟩
      exact below4 BL.out (by omega) _
end Go.Proofs.YteekoabgbjbabaaGreatDoor.Aes

namespace Go.Proofs.YteekoabgbjbabaaGreatDoor.Aes
open Go.RowKit Gf8

theorem few_all : ∀ x : Fin 256, gm 2 x.val = xt x.val ∧ gm 3 x.val = xt x.val ^^^ x.val ∧ gm 1 x.val = x.val := by decide +kernel
/-- The reference's row of the mixing. -/
def mxF (x : Nat → Nat) (r : Nat) : Nat := x r ^^^ (x 0 ^^^ x 1 ^^^ x 2 ^^^ x 3) ^^^ xt (x r ^^^ x ((r + 1) % 4))
theorem mxF_mix {x : Nat → Nat} (hx : ∀ i, i < 4 → x i < 256) {r : Nat} (hr : r < 4) : mxF x r = mixk fwd x r := by
  have s (j : Nat) (h : j < 4) := few_all ⟨x j, hx j h⟩
  obtain ⟨a0, b0, e0⟩ := s 0 (by omega)
  obtain ⟨a1, b1, e1⟩ := s 1 (by omega)
  obtain ⟨a2, b2, e2⟩ := s 2 (by omega)
  obtain ⟨a3, b3, e3⟩ := s 3 (by omega)
  simp only at a0 b0 e0 a1 b1 e1 a2 b2 e2 a3 b3 e3
  have : r = 0 ∨ r = 1 ∨ r = 2 ∨ r = 3 := by omega
  rcases this with rfl | rfl | rfl | rfl
  · show x 0 ^^^ (x 0 ^^^ x 1 ^^^ x 2 ^^^ x 3) ^^^ xt (x 0 ^^^ x 1) = gm 2 (x 0) ^^^ gm 3 (x 1) ^^^ gm 1 (x 2) ^^^ gm 1 (x 3)
    rw [a0, b1, e2, e3, xt_xor]
    apply Nat.eq_of_testBit_eq
    intro i
    simp only [Nat.testBit_xor]
    cases (x 0).testBit i <;> cases (x 1).testBit i <;> cases (x 2).testBit i <;> cases (x 3).testBit i <;> cases (xt (x 0)).testBit i <;> cases (xt (x 1)).testBit i <;> rfl
  · show x 1 ^^^ (x 0 ^^^ x 1 ^^^ x 2 ^^^ x 3) ^^^ xt (x 1 ^^^ x 2) = gm 1 (x 0) ^^^ gm 2 (x 1) ^^^ gm 3 (x 2) ^^^ gm 1 (x 3)
    rw [e0, a1, b2, e3, xt_xor]
    apply Nat.eq_of_testBit_eq
    intro i
    simp only [Nat.testBit_xor]
    cases (x 0).testBit i <;> cases (x 1).testBit i <;> cases (x 2).testBit i <;> cases (x 3).testBit i <;> cases (xt (x 1)).testBit i <;> cases (xt (x 2)).testBit i <;> rfl
  · show x 2 ^^^ (x 0 ^^^ x 1 ^^^ x 2 ^^^ x 3) ^^^ xt (x 2 ^^^ x 3) = gm 1 (x 0) ^^^ gm 1 (x 1) ^^^ gm 2 (x 2) ^^^ gm 3 (x 3)
    rw [e0, e1, a2, b3, xt_xor]
    apply Nat.eq_of_testBit_eq
    intro i
    simp only [Nat.testBit_xor]
    cases (x 0).testBit i <;> cases (x 1).testBit i <;> cases (x 2).testBit i <;> cases (x 3).testBit i <;> cases (xt (x 2)).testBit i <;> cases (xt (x 3)).testBit i <;> rfl
  · show x 3 ^^^ (x 0 ^^^ x 1 ^^^ x 2 ^^^ x 3) ^^^ xt (x 3 ^^^ x 0) = gm 3 (x 0) ^^^ gm 1 (x 1) ^^^ gm 1 (x 2) ^^^ gm 2 (x 3)
    rw [b0, e1, e2, a3, xt_xor]
    apply Nat.eq_of_testBit_eq
    intro i
    simp only [Nat.testBit_xor]
    cases (x 0).testBit i <;> cases (x 1).testBit i <;> cases (x 2).testBit i <;> cases (x 3).testBit i <;> cases (xt (x 0)).testBit i <;> cases (xt (x 3)).testBit i <;> rfl
/-- The column's sum. -/
def sum4 (b : Nat → Nat) (c : Nat) : Nat := b c ^^^ b (c + 1) ^^^ b (c + 2) ^^^ b (c + 3)
theorem mx_at {b : Nat → Nat} (hb : By b) {q r : Nat} (hq : q < 4) (hr : r < 4) : b (4 * q + r) ^^^ sum4 b (4 * q) ^^^ xt (b (4 * q + r) ^^^ b (4 * q + (r + 1) % 4)) = mixB fwd b (4 * q + r) := by
  have e1 : (4 * q + r) / 4 * 4 = 4 * q := by omega
  have e2 : (4 * q + r) % 4 = r := by omega
  unfold mixB
  rw [e1, e2, ← mxF_mix (x := fun s => b (4 * q + s)) (fun i hi => hb _ (by omega)) hr]
  rfl
/-- What each operation of 'out[c+r] = ..' yields. -/
def mxV (A c r : Nat) (b : Nat → Nat) (j : Nat) : Value :=
  match j with
  | 0 => .int .i64 c | 1 => .int .i64 r | 2 => .int .i64 (c + r : Nat) | 3 => .int .i64 c | 4 => .int .i64 r | 5 => .int .i64 (c + r : Nat) | 6 => .pointer (some ⟨A, c + r, none⟩) | 7 => .int .u8 (b (c + r)) | 8 => .int .u8 (sum4 b c : Nat)
  | 9 => .int .u8 (b (c + r) ^^^ sum4 b c : Nat) | 10 => .int .i64 c | 11 => .int .i64 r | 12 => .int .i64 (c + r : Nat) | 13 => .pointer (some ⟨A, c + r, none⟩) | 14 => .int .u8 (b (c + r)) | 15 => .int .i64 c | 16 => .int .i64 r | 17 => .int .i64 (r + 1 : Nat)
  | 18 => .int .i64 ((r + 1) % 4 : Nat) | 19 => .int .i64 (c + (r + 1) % 4 : Nat) | 20 => .pointer (some ⟨A, c + (r + 1) % 4, none⟩) | 21 => .int .u8 (b (c + (r + 1) % 4)) | 22 => .int .u8 (b (c + r) ^^^ b (c + (r + 1) % 4) : Nat)
  | 23 => .int .u8 (xt (b (c + r) ^^^ b (c + (r + 1) % 4)) : Nat) | 24 => .int .u8 (b (c + r) ^^^ sum4 b c ^^^ xt (b (c + r) ^^^ b (c + (r + 1) % 4)) : Nat) | 25 => .pointer (some ⟨A + 2, c + r, none⟩) | _ => undef
structure MxT (A k : Nat) (b : Nat → Nat) (V : World) (l : Nat → Bool) (W : World) : Prop where
  bb : W.heap[A]? = some (.cells (bA 16 b) 35)
  rr : W.heap[A + 1]? = some (.cells (bA 16 fun _ => 0) 35)
  oo : W.heap[A + 2]? = some (.cells (bA 16 (uptoC (mixB fwd b) (if l 26 = true then k + 1 else k))) 35)
  bel : Below A V W

set_option maxRecDepth 20000 in
set_option maxHeartbeats 1000000 in
theorem mixed_any (b : Nat → Nat) (V : World) (hb : By b) :
    Calls Tryz.prog 81 #[.agg (bA 16 b)] V fun e w' => e = .returned (.agg (bA 16 (mixB fwd b))) ∧ Below V.heap.size V w' := by
  have HB : Hid (By b) := hb
  clear hb
  have z := zero16
  go_enter Tryz.func81, Tryz.ntmps81
  go_wp2_with fail
  have t0 : MxT V.heap.size 0 b V (fun _ => false) (((V.alloc (.cells (bA 16 b) 35)).alloc (.cells (bA 16 fun _ => 0) 35)).alloc (.cells (bA 16 fun _ => 0) 35)) := by
    have h := heap3c V (.cells (bA 16 b) 35) (.cells (bA 16 fun _ => 0) 35) (.cells (bA 16 fun _ => 0) 35)
    exact ⟨h.1, h.2.1, h.2.2, below3c _ _ _ _⟩
  obtain ⟨A, hA⟩ : ∃ A, A = V.heap.size := ⟨_, rfl⟩
  rw [← hA] at t0 ⊢
  have VA : Hid (V.heap.size = A) := hA.symm
  have T0 : Hid (_) := t0
  clear z t0 hA
  rw [show A + 1 + 1 = A + 2 from rfl]
  go_loopw [4] (fun x W => ∃ q : Nat, q ≤ 4 ∧ x = .int .i64 ((4 * q : Nat) : Int) ∧ MxT A (4 * q) b V (fun _ => false) W) (fun x _ => 16 - (intOf x).toNat)
  case atStart => exact ⟨0, by omega, rfl, T0.out⟩
  case round =>
    obtain ⟨q, hq, rfl, kt⟩ := hrel
    have KT : Hid (_) := kt
    clear kt T0
    by_cases hlt : q < 4
    · obtain ⟨c, hc⟩ : ∃ c, 4 * q = c := ⟨_, rfl⟩
      have HC : Hid (4 * q = c ∧ q < 4) := ⟨hc, hlt⟩
      rw [hc] at KT ⊢
      have i1 : (c : Int) < 16 := by omega
      obtain ⟨c1, h1⟩ : ∃ x, c + 1 = x := ⟨_, rfl⟩
      obtain ⟨c2, h2⟩ : ∃ x, c + 2 = x := ⟨_, rfl⟩
      obtain ⟨c3, h3⟩ : ∃ x, c + 3 = x := ⟨_, rfl⟩
      have e1 : (c : Int) + 1 = c1 := by omega
      have e2 : (c : Int) + 2 = c2 := by omega
      have e3 : (c : Int) + 3 = c3 := by omega
      have l1 : (c1 : Int) < 16 := by omega
      have l2 : (c2 : Int) < 16 := by omega
      have l3 : (c3 : Int) < 16 := by omega
      obtain ⟨p0, hp0⟩ : ∃ x, b c = x := ⟨_, rfl⟩
      obtain ⟨p1, hp1⟩ : ∃ x, b c1 = x := ⟨_, rfl⟩
      obtain ⟨p2, hp2⟩ : ∃ x, b c2 = x := ⟨_, rfl⟩
      obtain ⟨p3, hp3⟩ : ∃ x, b c3 = x := ⟨_, rfl⟩
      have u0 : p0 < 256 := by rw [← hp0]; exact HB.out _ (by omega)
      have u1 : p1 < 256 := by rw [← hp1]; exact HB.out _ (by omega)
      have u2 : p2 < 256 := by rw [← hp2]; exact HB.out _ (by omega)
      have u3 : p3 < 256 := by rw [← hp3]; exact HB.out _ (by omega)
      have r0 : wr.cell? ⟨A, c, none⟩ = some (.int .u8 p0) := by rw [cellN KT.out.bb (by omega), hp0]
      have r1 : wr.cell? ⟨A, c1, none⟩ = some (.int .u8 p1) := by rw [cellN KT.out.bb (by omega), hp1]
      have r2 : wr.cell? ⟨A, c2, none⟩ = some (.int .u8 p2) := by rw [cellN KT.out.bb (by omega), hp2]
      have r3 : wr.cell? ⟨A, c3, none⟩ = some (.int .u8 p3) := by rw [cellN KT.out.bb (by omega), hp3]
      have f1 := xor_u8 u0 u1
      have f2 := xor_u8 (xor_lt u0 u1) u2
      have f3 := xor_u8 (xor_lt (xor_lt u0 u1) u2) u3
      have ES : Hid (p0 ^^^ p1 ^^^ p2 ^^^ p3 = sum4 b c ∧ sum4 b c < 256) := by
        have e : p0 ^^^ p1 ^^^ p2 ^^^ p3 = sum4 b c := by rw [← hp0, ← hp1, ← hp2, ← hp3, ← h1, ← h2, ← h3]; rfl
        exact ⟨e, by rw [← e]; exact xor_lt (xor_lt (xor_lt u0 u1) u2) u3⟩
      clear hc hlt hq h1 h2 h3 hp0 hp1 hp2 hp3
      go_wp2_with fail
      go_quiet (skip)
      go_wp2_with fail
      rw [ES.out.1]
      clear r0 r1 r2 r3 f1 f2 f3 e1 e2 e3 l1 l2 l3 u0 u1 u2 u3
      go_loopw [6] (fun x W => ∃ r : Nat, r ≤ 4 ∧ x = .int .i64 r ∧ MxT A (c + r) b V (fun _ => false) W) (fun x _ => 4 - (intOf x).toNat)
      case atStart => exact ⟨0, by omega, rfl, KT.out.bb, KT.out.rr, KT.out.oo, belowD KT.out.bel _⟩
      case round =>
        obtain ⟨r, hr, rfl, kt⟩ := hrel
        have KR : Hid (_) := kt
        clear kt KT
        by_cases hrl : r < 4
        · have j1 : (r : Int) < 4 := by omega
          have HL : Hid (r < 4) := hrl
          clear hrl hr
          go_wp2_with fail
          refine wp_region_det 60 [(0, 33), (1, 34), (2, 35), (3, 36), (4, 37), (5, 38), (6, 39), (7, 40), (8, 41), (9, 42), (10, 43), (11, 44), (12, 45), (13, 46), (14, 47), (15, 48), (16, 49), (17, 50), (18, 51), (19, 52), (20, 53), (21, 54), (22, 55), (23, 56), (24, 57), (25, 58)] (mxV A c r b) (MxT A (c + r) b V) (by kernel_rfl) (by kernel_rfl) rfl (by kernel_rfl) (by decide) (by decide) ?_ ?_ ?_
          · exact ⟨KR.out.bb, KR.out.rr, KR.out.oo, KR.out.bel.drew⟩
          · intro j hj l a W hl hf hdep hl2 _ _ hT
            have lr := HL.out
            have lc := HC.out
            have s1 := ES.out.2
            have b1 : b (c + r) < 256 := HB.out _ (by omega)
            have b2 : b (c + (r + 1) % 4) < 256 := HB.out _ (by omega)
            have b3 := xt_lt (xor_lt b1 b2)
            match j, hj with
            | 0, _ => exact stepV rfl rfl (execMvB rfl (hf 4 (by decide))) ⟨⟨_, rfl, rfl⟩, ⟨hT.bb, hT.rr, hT.oo, hT.bel⟩⟩
            | 1, _ => exact stepV rfl rfl (execMvB rfl (hf 6 (by decide))) ⟨⟨_, rfl, rfl⟩, ⟨hT.bb, hT.rr, hT.oo, hT.bel⟩⟩
            | 2, _ => exact stepV rfl rfl (execAddI rfl (hdep _ rfl 0 rfl _ rfl _ rfl) (hdep _ rfl 1 rfl _ rfl _ rfl) (by omega)) ⟨⟨_, rfl, rfl⟩, ⟨hT.bb, hT.rr, hT.oo, hT.bel⟩⟩
            | 3, _ => exact stepV rfl rfl (execMvB rfl (hf 4 (by decide))) ⟨⟨_, rfl, rfl⟩, ⟨hT.bb, hT.rr, hT.oo, hT.bel⟩⟩
            | 4, _ => exact stepV rfl rfl (execMvB rfl (hf 6 (by decide))) ⟨⟨_, rfl, rfl⟩, ⟨hT.bb, hT.rr, hT.oo, hT.bel⟩⟩
            | 5, _ => exact stepV rfl rfl (execAddI rfl (hdep _ rfl 3 rfl _ rfl _ rfl) (hdep _ rfl 4 rfl _ rfl _ rfl) (by omega)) ⟨⟨_, rfl, rfl⟩, ⟨hT.bb, hT.rr, hT.oo, hT.bel⟩⟩
            | 6, _ => exact stepV rfl rfl (execIdx16 rfl (hf 1 (by decide)) (hdep _ rfl 5 rfl _ rfl _ rfl) (by omega)) ⟨⟨_, rfl, rfl⟩, ⟨hT.bb, hT.rr, hT.oo, hT.bel⟩⟩
            | 7, _ => exact stepV rfl rfl (execLdB rfl (hdep _ rfl 6 rfl _ rfl _ rfl) (cellN hT.bb (by omega))) ⟨⟨_, rfl, rfl⟩, ⟨hT.bb, hT.rr, hT.oo, hT.bel⟩⟩
            | 8, _ => exact stepV rfl rfl (execMvB rfl (hf 5 (by decide))) ⟨⟨_, rfl, rfl⟩, ⟨hT.bb, hT.rr, hT.oo, hT.bel⟩⟩
            | 9, _ => exact stepV rfl rfl (execXor5 rfl (hdep _ rfl 7 rfl _ rfl _ rfl) (hdep _ rfl 8 rfl _ rfl _ rfl) b1 s1) ⟨⟨_, rfl, rfl⟩, ⟨hT.bb, hT.rr, hT.oo, hT.bel⟩⟩
            | 10, _ => exact stepV rfl rfl (execMvB rfl (hf 4 (by decide))) ⟨⟨_, rfl, rfl⟩, ⟨hT.bb, hT.rr, hT.oo, hT.bel⟩⟩
            | 11, _ => exact stepV rfl rfl (execMvB rfl (hf 6 (by decide))) ⟨⟨_, rfl, rfl⟩, ⟨hT.bb, hT.rr, hT.oo, hT.bel⟩⟩
            | 12, _ => exact stepV rfl rfl (execAddI rfl (hdep _ rfl 10 rfl _ rfl _ rfl) (hdep _ rfl 11 rfl _ rfl _ rfl) (by omega)) ⟨⟨_, rfl, rfl⟩, ⟨hT.bb, hT.rr, hT.oo, hT.bel⟩⟩
            | 13, _ => exact stepV rfl rfl (execIdx16 rfl (hf 1 (by decide)) (hdep _ rfl 12 rfl _ rfl _ rfl) (by omega)) ⟨⟨_, rfl, rfl⟩, ⟨hT.bb, hT.rr, hT.oo, hT.bel⟩⟩
            | 14, _ => exact stepV rfl rfl (execLdB rfl (hdep _ rfl 13 rfl _ rfl _ rfl) (cellN hT.bb (by omega))) ⟨⟨_, rfl, rfl⟩, ⟨hT.bb, hT.rr, hT.oo, hT.bel⟩⟩
            | 15, _ => exact stepV rfl rfl (execMvB rfl (hf 4 (by decide))) ⟨⟨_, rfl, rfl⟩, ⟨hT.bb, hT.rr, hT.oo, hT.bel⟩⟩
            | 16, _ => exact stepV rfl rfl (execMvB rfl (hf 6 (by decide))) ⟨⟨_, rfl, rfl⟩, ⟨hT.bb, hT.rr, hT.oo, hT.bel⟩⟩
            | 17, _ => exact stepV rfl rfl (execAddI (q := 1) rfl (hdep _ rfl 16 rfl _ rfl _ rfl) rfl (by omega)) ⟨⟨_, rfl, rfl⟩, ⟨hT.bb, hT.rr, hT.oo, hT.bel⟩⟩
            | 18, _ => exact stepV rfl rfl (execRemI (q := 4) rfl (hdep _ rfl 17 rfl _ rfl _ rfl) rfl (by omega)) ⟨⟨_, rfl, rfl⟩, ⟨hT.bb, hT.rr, hT.oo, hT.bel⟩⟩
            | 19, _ => exact stepV rfl rfl (execAddI rfl (hdep _ rfl 15 rfl _ rfl _ rfl) (hdep _ rfl 18 rfl _ rfl _ rfl) (by omega)) ⟨⟨_, rfl, rfl⟩, ⟨hT.bb, hT.rr, hT.oo, hT.bel⟩⟩
            | 20, _ => exact stepV rfl rfl (execIdx16 rfl (hf 1 (by decide)) (hdep _ rfl 19 rfl _ rfl _ rfl) (by omega)) ⟨⟨_, rfl, rfl⟩, ⟨hT.bb, hT.rr, hT.oo, hT.bel⟩⟩
            | 21, _ => exact stepV rfl rfl (execLdB rfl (hdep _ rfl 20 rfl _ rfl _ rfl) (cellN hT.bb (by omega))) ⟨⟨_, rfl, rfl⟩, ⟨hT.bb, hT.rr, hT.oo, hT.bel⟩⟩
            | 22, _ => exact stepV rfl rfl (execXor5 rfl (hdep _ rfl 14 rfl _ rfl _ rfl) (hdep _ rfl 21 rfl _ rfl _ rfl) b1 b2) ⟨⟨_, rfl, rfl⟩, ⟨hT.bb, hT.rr, hT.oo, hT.bel⟩⟩
            | 23, _ => exact stepC rfl rfl (execCall1 Tryz.func79 (by kernel_rfl) (by kernel_rfl) rfl (hdep _ rfl 22 rfl _ rfl _ rfl)) (twice_any _ W (xor_lt b1 b2)) fun e w' h => ⟨_, h.1, ⟨_, rfl, rfl⟩, by rw [h.2]; exact ⟨hT.bb, hT.rr, hT.oo, hT.bel⟩⟩
            | 24, _ => exact stepV rfl rfl (execXor5 rfl (hdep _ rfl 9 rfl _ rfl _ rfl) (hdep _ rfl 23 rfl _ rfl _ rfl) (xor_lt b1 s1) b3) ⟨⟨_, rfl, rfl⟩, ⟨hT.bb, hT.rr, hT.oo, hT.bel⟩⟩
            | 25, _ => exact stepV rfl rfl (execIdx16 rfl (hf 3 (by decide)) (hdep _ rfl 2 rfl _ rfl _ rfl) (by omega)) ⟨⟨_, rfl, rfl⟩, ⟨hT.bb, hT.rr, hT.oo, hT.bel⟩⟩
            | 26, _ =>
              have ge := hT.oo
              rw [hl, if_neg (by decide)] at ge
              have em : b (c + r) ^^^ sum4 b c ^^^ xt (b (c + r) ^^^ b (c + (r + 1) % 4)) = mixB fwd b (c + r) := by rw [← lc.1]; exact mx_at HB.out lc.2 lr
              refine stepS rfl rfl (execStB rfl (hdep _ rfl 25 rfl _ rfl _ rfl) (hdep _ rfl 24 rfl _ rfl _ rfl) (cellN ge (by omega)) (frozen4 ge)) ⟨⟨_, rfl, rfl⟩, ⟨?_, ?_, ?_, hT.bel.setCell (by simp) _⟩⟩
              · rw [heap4o _ ge (by omega)]; exact hT.bb
              · rw [heap4o _ ge (by omega)]; exact hT.rr
              · rw [heap4 _ ge, em]; exact congrArg (fun z => some (Obj.cells z 35)) ((bA_set 16 _ (c + r) _).trans (congrArg (bA 16) (updN_upto (mixB fwd b) (c + r))))
            | n + 27, h => exact absurd h (by simp)
          · intro l W hall hT
            have he := hT.oo
            rw [hall 26 (by simp), if_pos rfl] at he
            have KT2 : Hid (MxT A (c + (r + 1)) b V (fun _ => false) W) := ⟨hT.bb, hT.rr, he, hT.bel⟩
            clear hall hT he KR
            simp only [putP, mxV, Act.put, List.setIfInBounds_toArray, List.set_cons_succ, List.set_cons_zero]
            go_wp2
            go_roundw
            case rel => exact ⟨r + 1, by have := HL.out; omega, by go_num, KT2.out⟩
            case measure => have := HL.out; simp [intOf]; omega
        · have er : r = 4 := by omega
          subst er
          have KT2 : Hid (MxT A (4 * (q + 1)) b V (fun _ => false) wr) := by
            have h := KR.out
            have e := HC.out.1
            rw [show c + 4 = 4 * (q + 1) by omega] at h
            exact h
          go_wp2
          go_roundw
          case rel => exact ⟨q + 1, by have := HC.out; omega, by have := HC.out.1; go_num, KT2.out⟩
          case measure => have := HC.out; simp [intOf]; omega
    · have eq : q = 4 := by omega
      subst eq
      have G : Hid (wr.heap[A + 2]? = some (.cells (bA 16 (mixB fwd b)) 35)) := by
        have h := KT.out.oo
        rw [if_neg (by decide), bA_congr (g := mixB fwd b) (fun j hj => by unfold uptoC; rw [if_pos (by omega)])] at h
        exact h
      go_wp2_with (first
        | (refine atLoad 35 (.tmp 3) rfl ?_; go_must (refine wpList_load_row rfl 35 (.tmp 3) rfl (A + 2) rfl 35 _ (0, 0) _ G.out Tryz.underlying35 rfl (size16 _) ?_; simp only [Act.put, List.setIfInBounds_toArray, List.set_cons_succ, List.set_cons_zero]))
        | (refine atStore 35 (.tmp 2) (.tmp 59) rfl ?_; go_must (refine wpList_store_row rfl 35 (.tmp 2) (.tmp 59) rfl (A + 1) _ rfl rfl 35 _ KT.out.rr (size16 _) rfl (bA_one _ _) ?_)))
      refine bodyPost_ret (v := .agg (bA 16 (mixB fwd b))) (results_cell_row Tryz.results81 _ _ (A + 1) 35 _ (0, 0) _ rfl (setRow_heap _ _ _ _ _ _ KT.out.rr) Tryz.underlying35 rfl (size16 _)) rfl ⟨rfl, ?_⟩
      rw [VA.out]
      exact below4 KT.out.bel (by omega) _
end Go.Proofs.YteekoabgbjbabaaGreatDoor.Aes
