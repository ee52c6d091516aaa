import Derived.Test.YtealknodagdjaaaJ2
namespace Go.Proofs.Ytealknodagdjaaa.Aes
open Go.RowKit Gf8

/-- The substitution as the reference holds it. -/
def boxT : ByteArray := ⟨#[99, 124, 119, 123, 242, 107, 111, 197, 48, 1, 103, 43, 254, 215, 171, 118, 202, 130, 201, 125, 250, 89, 71, 240, 173, 212, 162, 175, 156, 164, 114, 192, 183, 253, 147, 38, 54, 63, 247, 204, 52, 165, 229, 241, 113, 216, 49, 21, 4, 199, 35, 195, 24, 150, 5, 154, 7, 18, 128, 226, 235, 39, 178, 117, 9, 131, 44, 26, 27, 110, 90, 160, 82, 59, 214, 179, 41, 227, 47, 132, 83, 209, 0, 237, 32, 252, 177, 91, 106, 203, 190, 57, 74, 76, 88, 207, 208, 239, 170, 251, 67, 77, 51, 133, 69, 249, 2, 127, 80, 60, 159, 168, 81, 163, 64, 143, 146, 157, 56, 245, 188, 182, 218, 33, 16, 255, 243, 210, 205, 12, 19, 236, 95, 151, 68, 23, 196, 167, 126, 61, 100, 93, 25, 115, 96, 129, 79, 220, 34, 42, 144, 136, 70, 238, 184, 20, 222, 94, 11, 219, 224, 50, 58, 10, 73, 6, 36, 92, 194, 211, 172, 98, 145, 149, 228, 121, 231, 200, 55, 109, 141, 213, 78, 169, 108, 86, 244, 234, 101, 122, 174, 8, 186, 120, 37, 46, 28, 166, 180, 198, 232, 221, 116, 31, 75, 189, 139, 138, 112, 62, 181, 102, 72, 3, 246, 14, 97, 53, 87, 185, 134, 193, 29, 158, 225, 248, 152, 17, 105, 217, 142, 148, 155, 30, 135, 233, 206, 85, 40, 223, 140, 161, 137, 13, 191, 230, 66, 104, 65, 153, 45, 15, 176, 84, 187, 22]⟩
theorem boxT_size : boxT.size = 256 := by decide +kernel
theorem box_all : ∀ j : Fin 256, (boxT[j.val]'(by rw [boxT_size]; exact j.isLt)).toNat = gsub j.val := by decide +kernel
theorem box_at {k : Nat} (h : k < 256) : (boxT[k]'(by rw [boxT_size]; exact h)).toNat = gsub k := box_all ⟨k, h⟩
section
variable {ops : Array Oper} {rest : List Oper} {o : Oper} {a : Act} {w : World} {Q : Exit → Act → World → Prop}
theorem execBoxI {x : Operand} {k : Nat} (ho : o.op = .index 9 (.const (.string boxT)) x) (hx : a.eval x = .int .i64 (k : Int)) (hk : k < 256) : (execOp a.eval o).run Try.prog w = .ok (.value (.int .u8 (gsub k : Nat))) w := by
  have h1 : k < boxT.size := by rw [boxT_size]; exact hk
  have h2 := box_at hk
  unfold execOp
  simp only [ho, hx]
  simp [go_sem, h1, Act.eval]
  rw [← h2]
theorem execBoxU {x : Operand} {k : Nat} (ho : o.op = .index 9 (.const (.string boxT)) x) (hx : a.eval x = .int .u8 (k : Int)) (hk : k < 256) : (execOp a.eval o).run Try.prog w = .ok (.value (.int .u8 (gsub k : Nat))) w := by
  have h1 : k < boxT.size := by rw [boxT_size]; exact hk
  have h2 := box_at hk
  unfold execOp
  simp only [ho, hx]
  simp [go_sem, h1, Act.eval]
  rw [← h2]
theorem wpList_boxI {x : Operand} {k : Nat} (hw : Region.wanted o (yielded ops a.tmps) = true) (ho : o.op = .index 9 (.const (.string boxT)) x) (hx : a.eval x = .int .i64 (k : Int)) (hk : k < 256)
    (h : wpList Try.prog ops Q rest (a.put o.dst (.int .u8 (gsub k : Nat))) w) : wpList Try.prog ops Q (o :: rest) a w :=
  BigFrame.wpList_want hw fun K hK => by unfold Oper.wp; rw [execBoxI ho hx hk]; exact hK _ _ h
theorem wpList_boxU {x : Operand} {k : Nat} (hw : Region.wanted o (yielded ops a.tmps) = true) (ho : o.op = .index 9 (.const (.string boxT)) x) (hx : a.eval x = .int .u8 (k : Int)) (hk : k < 256)
    (h : wpList Try.prog ops Q rest (a.put o.dst (.int .u8 (gsub k : Nat))) w) : wpList Try.prog ops Q (o :: rest) a w :=
  BigFrame.wpList_want hw fun K hK => by unfold Oper.wp; rw [execBoxU ho hx hk]; exact hK _ _ h
theorem atBox {P : Program} (x : Operand) (_ : o.op = .index 9 (.const (.string boxT)) x) (h : wpList P ops Q (o :: rest) a w) : wpList P ops Q (o :: rest) a w := h
end
theorem size256 (f : Nat → Nat) : (Try.prog.info? 54).map (·.size) = some (bA 256 f).size := by rw [bA_size]; kernel_rfl
theorem zero256 : ∀ w, (zeroValue 54).run Try.prog w = .ok (.agg (bA 256 fun _ => 0)) w :=
  (zero_of_info (n := 256) (by kernel_rfl)).1
/-- The table the other way round, of the first k. -/
def bkF (k : Nat) : Nat → Nat := fun x => if guns x < k then guns x else 0

set_option maxRecDepth 20000 in
set_option maxHeartbeats 400000 in
theorem back_any (V : World) :
    Calls Try.prog 36 #[] V fun e w' => e = .returned (.agg (bA 256 guns)) ∧ Below V.heap.size V w' := by
  have z := zero256
  go_enter Try.func36, Try.ntmps36
  go_wp2_with fail
  clear z
  have h2 := heap3c V (.cells (bA 256 fun _ => 0) 54) (.cells (bA 256 fun _ => 0) 54) (.cells (bA 256 fun _ => 0) 54)
  have hs : ∀ (v : World) (o : Obj), (v.alloc o).heap = v.heap.push o := fun _ _ => rfl
  have T0 : Hid (((V.alloc (.cells (bA 256 fun _ => 0) 54)).alloc (.cells (bA 256 fun _ => 0) 54)).heap[V.heap.size]? = some (.cells (bA 256 fun _ => 0) 54) ∧ ((V.alloc (.cells (bA 256 fun _ => 0) 54)).alloc (.cells (bA 256 fun _ => 0) 54)).heap[V.heap.size + 1]? = some (.cells (bA 256 (bkF 0)) 54)) := by
    refine ⟨?_, ?_⟩
    · simp only [hs, Array.getElem?_push, Array.size_push]; rw [if_neg (by omega), if_pos trivial]
    · simp only [hs, Array.getElem?_push, Array.size_push]; rw [if_pos trivial]; rfl
  clear h2 hs
  go_loopw [2] (fun x W => ∃ k : Nat, k ≤ 256 ∧ x = .int .i64 k ∧ W.heap[V.heap.size]? = some (.cells (bA 256 fun _ => 0) 54) ∧ W.heap[V.heap.size + 1]? = some (.cells (bA 256 (bkF k)) 54) ∧ Below V.heap.size V W) (fun x _ => 256 - (intOf x).toNat)
  case atStart => exact ⟨0, by omega, rfl, T0.out.1, T0.out.2, ((Below.refl _ _).alloc (Nat.le_refl _) _).alloc (by simp) _⟩
  case round =>
    obtain ⟨k, hk, rfl, g1, g2, bel⟩ := hrel
    have G1 : Hid (_) := g1
    have G2 : Hid (_) := g2
    have BL : Hid (Below V.heap.size V wr) := bel
    clear g1 g2 bel T0
    by_cases hlt : k < 256
    · have i1 : (k : Int) < 256 := by omega
      have i0 : (0 : Int) ≤ (k : Int) := by omega
      have m0 : (k : Int) % 256 = k := by omega
      obtain ⟨x, hx⟩ : ∃ x, gsub k = x := ⟨_, rfl⟩
      have x1 : x < 256 := by rw [← hx]; exact gsub_lt hlt
      have x2 : (x : Int) < 256 := by omega
      have c1 : wr.cell? ⟨V.heap.size + 1, x, none⟩ = some (.int .u8 (bkF k x)) := cellN G2.out x1
      have c2 : wr.frozen? ⟨V.heap.size + 1, x, none⟩ = false := frozen4 G2.out
      have E : Hid (bA 256 (updN (bkF k) x k) = bA 256 (bkF (k + 1))) := bA_congr fun i hi => by
        unfold updN bkF
        by_cases h : i = x
        · have hg : guns i = k := by rw [h, ← hx, uns_sub hlt]
          rw [if_pos h, hg, if_pos (by omega)]
        · have hg : guns i ≠ k := fun e => h (by rw [← hx, ← e, sub_uns hi])
          rw [if_neg h]
          by_cases h2 : guns i < k
          · rw [if_pos h2, if_pos (by omega)]
          · rw [if_neg h2, if_neg (by omega)]
      go_wp2_with (first
        | (refine atBox (.tmp 7) rfl ?_; go_must (refine wpList_boxI (k := k) rfl rfl rfl hlt ?_; simp only [Act.put, List.setIfInBounds_toArray, List.set_cons_succ, List.set_cons_zero, hx])))
      go_roundw
      case rel =>
        refine ⟨k + 1, by omega, by go_num, ?_, ?_, BL.out.setCell (by simp) _⟩
        · rw [heap4o _ G2.out (by omega)]; exact G1.out
        · rw [heap4 _ G2.out, bA_set, E.out]
      case measure => simp [intOf]; omega
    · have i1 : ¬ (k : Int) < 256 := by omega
      have ek : k = 256 := by omega
      subst ek
      have G : Hid (wr.heap[V.heap.size + 1]? = some (.cells (bA 256 guns) 54)) := by
        have h := G2.out
        rw [bA_congr (g := guns) (fun i hi => by unfold bkF; rw [if_pos (guns_lt hi)])] at h
        exact h
      go_wp2_with (first
        | (refine atLoad 54 (.tmp 1) rfl ?_; go_must (refine wpList_load_row rfl 54 (.tmp 1) rfl (V.heap.size + 1) rfl 54 _ (0, 0) _ G.out Try.underlying54 rfl (size256 _) ?_; simp only [Act.put, List.setIfInBounds_toArray, List.set_cons_succ, List.set_cons_zero]))
        | (refine atStore 54 (.tmp 0) (.tmp 12) rfl ?_; go_must (refine wpList_store_row rfl 54 (.tmp 0) (.tmp 12) rfl V.heap.size _ rfl rfl 54 _ G1.out (size256 _) rfl (bA_one _ _) ?_)))
      refine bodyPost_ret (v := .agg (bA 256 guns)) (results_cell_row Try.results36 _ _ V.heap.size 54 _ (0, 0) _ rfl (setRow_heap _ _ _ _ _ _ G1.out) Try.underlying54 rfl (size256 _)) rfl ⟨rfl, ?_⟩
      exact below4 BL.out (by omega) _
end Go.Proofs.Ytealknodagdjaaa.Aes
