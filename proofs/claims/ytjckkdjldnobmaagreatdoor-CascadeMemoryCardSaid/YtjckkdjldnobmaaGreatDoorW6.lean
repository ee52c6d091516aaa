import Derived.Test.YtjckkdjldnobmaaGreatDoorJ6
import Derived.Shelf.Abstract
import Derived.Test.YtjckkdjldnobmaaGreatDoorY3
import Derived.Test.YtjckkdjldnobmaaGreatDoorI1
import Derived.Deep.MidRow
import Derived.Laws.CopyRow
import Derived.Test.YtjckkdjldnobmaaGreatDoorL0
namespace Go.Proofs.YtjckkdjldnobmaaGreatDoor.Aes
open Go.RowKit Gf8
/- The program's block: a function that is handed in; substituted; turned. -/

/-- A function of bytes as a value: function g with what it has captured, called in any world that keeps what lay in V. -/
structure FnB (g : Nat) (lb : Array Value) (f : Nat → Nat) (V : World) : Prop where
  enters : Enters Tryz.prog g
  gives : ∀ (a : Nat) (W : World), a < 256 → Below V.heap.size V W → Calls Tryz.prog g (#[.int .u8 a] ++ lb) W fun e w' => e = .returned (.int .u8 (f a : Nat)) ∧ Below W.heap.size W w'
  lt : ∀ a, a < 256 → f a < 256
theorem FnB.on {g : Nat} {lb : Array Value} {f : Nat → Nat} {V W : World} (h : FnB g lb f V) (hb : Below V.heap.size V W) : FnB g lb f W :=
  ⟨h.enters, fun a U ha hU => h.gives a U ha (hb.trans (hU.mono hb.size)), h.lt⟩
/-- The rows of substituted. -/
structure SuT (A k : Nat) (f b : Nat → Nat) (V W : World) : Prop where
  b : W.heap[A]? = some (.cells (bA 16 (mixU (fun j => f (b j)) b k)) 34)
  r : W.heap[A + 1]? = some (.cells (bA 16 fun _ => 0) 34)
  bel : Below A V W
theorem SuT.lt {A k : Nat} {f b : Nat → Nat} {V W : World} (h : SuT A k f b V W) : A + 1 < W.heap.size := (Array.getElem?_eq_some_iff.1 h.r).1
theorem SuT.on {A k : Nat} {f b : Nat → Nat} {V W W' : World} (h : SuT A k f b V W) (hb : Below W.heap.size W W') : SuT A k f b V W' := by
  have l := h.lt
  exact ⟨by rw [hb.block _ (by omega)]; exact h.b, by rw [hb.block _ (by omega)]; exact h.r, h.bel.trans (hb.mono (by omega))⟩
set_option maxRecDepth 20000 in
set_option maxHeartbeats 400000 in
theorem substituted_any (g : Nat) (lb : Array Value) (f b : Nat → Nat) (V : World) (hF : FnB g lb f V) (hb : By b) :
    Calls Tryz.prog 144 #[.agg (bA 16 b), .func (.func g) #[] lb] V fun e w' => e = .returned (.agg (bA 16 fun j => f (b j))) ∧ Below V.heap.size V w' := by
  have HB : Hid (By b) := hb
  have HF : Hid (FnB g lb f V) := hF
  have eg : ∀ (args : Array Value) (w : World), (callFunc g args).run Tryz.prog w = .ok (.enter g args) w := hF.enters
  clear hb hF
  have z := zero16
  go_enter Tryz.func144, Tryz.ntmps144
  go_wp2_with fail
  have t0 : SuT V.heap.size 0 f b V ((V.alloc (.cells (bA 16 b) 34)).alloc (.cells (bA 16 fun _ => 0) 34)) := by
    have h := heap2c V (.cells (bA 16 b) 34) (.cells (bA 16 fun _ => 0) 34)
    exact ⟨h.1, h.2, below2c _ _ _⟩
  obtain ⟨A, hA⟩ : ∃ A, A = V.heap.size := ⟨_, rfl⟩
  rw [← hA] at t0 ⊢
  have VA : Hid (V.heap.size = A) := hA.symm
  have T0 : Hid (_) := t0
  clear z t0 hA
  go_loopw [6] (fun x W => ∃ k : Nat, k ≤ 16 ∧ x = .int .i64 k ∧ SuT A k f b V W) (fun x _ => 16 - (intOf x).toNat)
  case atStart => exact ⟨0, by omega, rfl, T0.out⟩
  case round =>
    obtain ⟨k, hk, rfl, kt⟩ := hrel
    clear T0
    by_cases hlt : k < 16
    · have i1 : (k : Int) < 16 := by omega
      have HL : Hid (k < 16) := hlt
      obtain ⟨y, hy⟩ : ∃ y, b k = y := ⟨_, rfl⟩
      have y1 : y < 256 := by rw [← hy]; exact HB.out k hlt
      have c1 : wr.cell? ⟨A, k, none⟩ = some (.int .u8 y) := by rw [cellN kt.b hlt]; unfold mixU; rw [if_neg (by omega), hy]
      have CF := HF.out.gives y wr y1 (by rw [VA.out]; exact kt.bel)
      have KT : Hid (_) := kt
      have HY : Hid (b k = y) := hy
      clear hlt hk kt hy
      go_wp2_with (go_at_fn g; refine CF.mono ?_; rintro e w1 ⟨rfl, hb1⟩; have kt := KT.out.on hb1; have n1 : w1.cell? ⟨A, k, none⟩ = some (.int .u8 (mixU (fun j => f (b j)) b k k)) := cellN kt.b HL.out; have n2 : w1.frozen? ⟨A, k, none⟩ = false := frozen4 kt.b)
      have KT2 : Hid (SuT A (k + 1) f b V (w1.setCell ⟨A, k, none⟩ (.int .u8 (f y : Nat)))) := by
        refine ⟨?_, ?_, kt.bel.setCell (Nat.le_refl _) _⟩
        · rw [heap4 _ kt.b, bA_set, ← HY.out]; exact congrArg (fun z => some (Obj.cells (bA 16 z) 34)) (updN_mixU (fun j => f (b j)) b k)
        · rw [heap4o _ kt.b (by omega)]; exact kt.r
      go_roundw
      case rel => exact ⟨k + 1, by have := HL.out; omega, by go_num, KT2.out⟩
      case measure => have := HL.out; simp [intOf]; omega
    · have i1 : ¬ (k : Int) < 16 := by omega
      have ek : k = 16 := by omega
      subst ek
      have G : Hid (wr.heap[A]? = some (.cells (bA 16 fun j => f (b j)) 34)) := by
        have h := kt.b
        rw [bA_congr (g := fun j => f (b j)) (fun j hj => by unfold mixU; rw [if_pos hj])] at h
        exact h
      go_wp2_with (first
        | (refine atLoad 34 (.tmp 2) rfl ?_; go_must (refine wpList_load_row rfl 34 (.tmp 2) rfl A rfl 34 _ (0, 0) _ G.out Tryz.underlying34 rfl (size16 _) ?_; simp only [Act.put, List.setIfInBounds_toArray, List.set_cons_succ, List.set_cons_zero]))
        | (refine atStore 34 (.tmp 4) (.tmp 17) rfl ?_; go_must (refine wpList_store_row rfl 34 (.tmp 4) (.tmp 17) rfl (A + 1) _ rfl rfl 34 _ kt.r (size16 _) rfl (bA_one _ _) ?_)))
      refine bodyPost_ret (v := .agg (bA 16 fun j => f (b j))) (results_cell_row Tryz.results144 _ _ (A + 1) 34 _ (0, 0) _ rfl (setRow_heap _ _ _ _ _ _ kt.r) Tryz.underlying34 rfl (size16 _)) rfl ⟨rfl, ?_⟩
      rw [VA.out]
      exact below4 kt.bel (by omega) _

/-- Row r turned to the left by r times m places. -/
def turnB (m : Nat) (b : Nat → Nat) : Nat → Nat := fun j => b ((j + 4 * m * (j % 4)) % 16)
/-- The rows of turned. -/
structure TuT (A k m : Nat) (b : Nat → Nat) (V W : World) : Prop where
  s : W.heap[A]? = some (.cells (bA 16 b) 34)
  r : W.heap[A + 1]? = some (.cells (bA 16 fun _ => 0) 34)
  o : W.heap[A + 2]? = some (.cells (bA 16 (uptoC (turnB m b) k)) 34)
  bel : Below A V W

set_option maxRecDepth 20000 in
set_option maxHeartbeats 400000 in
theorem turned_any (m : Nat) (b : Nat → Nat) (V : World) (hm : m < 4) (hb : By b) :
    Calls Tryz.prog 143 #[.agg (bA 16 b), .int .i64 m] V fun e w' => e = .returned (.agg (bA 16 (turnB m b))) ∧ Below V.heap.size V w' := by
  have HB : Hid (By b) := hb
  have HM : Hid (m < 4) := hm
  clear hb hm
  have z := zero16
  go_enter Tryz.func143, Tryz.ntmps143
  go_wp2_with fail
  have t0 : TuT V.heap.size 0 m b V (((V.alloc (.cells (bA 16 b) 34)).alloc (.cells (bA 16 fun _ => 0) 34)).alloc (.cells (bA 16 fun _ => 0) 34)) := by
    have h := heap3c V (.cells (bA 16 b) 34) (.cells (bA 16 fun _ => 0) 34) (.cells (bA 16 fun _ => 0) 34)
    exact ⟨h.1, h.2.1, h.2.2, below3c _ _ _ _⟩
  obtain ⟨A, hA⟩ : ∃ A, A = V.heap.size := ⟨_, rfl⟩
  rw [← hA] at t0 ⊢
  have VA : Hid (V.heap.size = A) := hA.symm
  have T0 : Hid (_) := t0
  clear z t0 hA
  rw [show A + 1 + 1 = A + 2 from rfl]
  go_loopw [8] (fun x W => ∃ k : Nat, k ≤ 16 ∧ x = .int .i64 k ∧ TuT A k m b V W) (fun x _ => 16 - (intOf x).toNat)
  case atStart => exact ⟨0, by omega, rfl, T0.out⟩
  case round =>
    obtain ⟨k, hk, rfl, kt⟩ := hrel
    clear T0
    by_cases hlt : k < 16
    · have i1 : (k : Int) < 16 := by omega
      have HL : Hid (k < 16) := hlt
      have hm := HM.out
      obtain ⟨p4, h4⟩ : ∃ x, k % 4 = x := ⟨_, rfl⟩
      obtain ⟨p5, h5⟩ : ∃ x, 4 * m = x := ⟨_, rfl⟩
      obtain ⟨p6, h6⟩ : ∃ x, p5 * p4 = x := ⟨_, rfl⟩
      obtain ⟨p7, h7⟩ : ∃ x, k + p6 = x := ⟨_, rfl⟩
      obtain ⟨p, hp⟩ : ∃ x, p7 % 16 = x := ⟨_, rfl⟩
      have b6 : p6 ≤ 36 := by rw [← h6]; exact Nat.mul_le_mul (show p5 ≤ 12 by omega) (show p4 ≤ 3 by omega)
      have e4 : (k : Int).tmod 4 = p4 := by rw [Int.tmod_eq_emod_of_nonneg (by omega)]; omega
      have e5 : 4 * (m : Int) = p5 := by omega
      have e6 : (p5 : Int) * p4 = p6 := by rw [← h6]; exact (Int.natCast_mul _ _).symm
      have e7 : (k : Int) + p6 = p7 := by omega
      have e8 : (p7 : Int).tmod 16 = p := by rw [Int.tmod_eq_emod_of_nonneg (by omega)]; omega
      have l4 : (p4 : Int) < 4 := by omega
      have l5 : (p5 : Int) < 16 := by omega
      have l6 : (p6 : Int) < 37 := by omega
      have l7 : (p7 : Int) < 64 := by omega
      have l8 : (p : Int) < 16 := by omega
      have w5 : IntKind.i64.wrap (4 * (m : Int)) = p5 := by rw [e5]; exact wrap_i64_nat (by omega)
      have w6 : IntKind.i64.wrap ((p5 : Int) * p4) = p6 := by rw [e6]; exact wrap_i64_nat (by omega)
      obtain ⟨y, hy⟩ : ∃ y, b p = y := ⟨_, rfl⟩
      have hq : turnB m b k = y := by
        unfold turnB
        rw [h4, h5, h6, h7, hp, hy]
      have c1 : wr.cell? ⟨A, p, none⟩ = some (.int .u8 y) := by rw [cellN kt.s (by omega), hy]
      have c2 : wr.cell? ⟨A + 2, k, none⟩ = some (.int .u8 (uptoC (turnB m b) k k)) := cellN kt.o hlt
      have c3 : wr.frozen? ⟨A + 2, k, none⟩ = false := frozen4 kt.o
      have KT2 : Hid (TuT A (k + 1) m b V (wr.setCell ⟨A + 2, k, none⟩ (.int .u8 y))) := by
        refine ⟨?_, ?_, ?_, kt.bel.setCell (by simp) _⟩
        · rw [heap4o _ kt.o (by omega)]; exact kt.s
        · rw [heap4o _ kt.o (by omega)]; exact kt.r
        · rw [heap4 _ kt.o, bA_set, ← hq, updN_upto]
      clear hk kt hy hq h4 h5 h6 h7 hp hm b6 e6 e5
      go_wp2
      go_roundw
      case rel => exact ⟨k + 1, by have := HL.out; omega, by go_num, KT2.out⟩
      case measure => have := HL.out; simp [intOf]; omega
    · have i1 : ¬ (k : Int) < 16 := by omega
      have ek : k = 16 := by omega
      subst ek
      have G : Hid (wr.heap[A + 2]? = some (.cells (bA 16 (turnB m b)) 34)) := by
        have h := kt.o
        rw [bA_congr (g := turnB m b) (fun j hj => by unfold uptoC; rw [if_pos hj])] at h
        exact h
      go_wp2_with (first
        | (refine atLoad 34 (.tmp 5) rfl ?_; go_must (refine wpList_load_row rfl 34 (.tmp 5) rfl (A + 2) rfl 34 _ (0, 0) _ G.out Tryz.underlying34 rfl (size16 _) ?_; simp only [Act.put, List.setIfInBounds_toArray, List.set_cons_succ, List.set_cons_zero]))
        | (refine atStore 34 (.tmp 4) (.tmp 25) rfl ?_; go_must (refine wpList_store_row rfl 34 (.tmp 4) (.tmp 25) rfl (A + 1) _ rfl rfl 34 _ kt.r (size16 _) rfl (bA_one _ _) ?_)))
      refine bodyPost_ret (v := .agg (bA 16 (turnB m b))) (results_cell_row Tryz.results143 _ _ (A + 1) 34 _ (0, 0) _ rfl (setRow_heap _ _ _ _ _ _ kt.r) Tryz.underlying34 rfl (size16 _)) rfl ⟨rfl, ?_⟩
      rw [VA.out]
      exact below4 kt.bel (by omega) _
end Go.Proofs.YtjckkdjldnobmaaGreatDoor.Aes

namespace Go.Proofs.YtjckkdjldnobmaaGreatDoor.Aes
open Go.RowKit Gf8
/- The program's block: copy; mixed. -/

section
variable {P : Program} {ops : Array Oper} {rest : List Oper} {o : Oper} {a : Act} {w w' : World} {Q : Exit → Act → World → Prop}
/-- A piece of an array. -/
theorem sliceArrLH (b l h : Nat) (hl : l < 16) (h1 : l ≤ h) (hh : h ≤ 16) (W : World) : (Instr.sliceAt 34 (.pointer (some ⟨b, 0, none⟩)) (some (.int .i64 (l : Int))) (some (.int .i64 (h : Int))) none).run Tryz.prog W = .ok (.slice (some ⟨b, l, none⟩) (h - l) (16 - l)) W := by
  have e2 : (h : Int) ≤ 16 := by omega
  have e1 : (l : Int) ≤ h := by omega
  have e3 : ¬ 16 = l := by omega
  simp [Instr.sliceAt, Instr.sureAddr, run_underlying Tryz.underlying34, Instr.sliceBounds, run_sliceBound, go_sem, e2, h1, e3, Addr.add]
  omega
theorem sliceArrL (b l : Nat) (hl : l < 16) (W : World) : (Instr.sliceAt 34 (.pointer (some ⟨b, 0, none⟩)) (some (.int .i64 (l : Int))) none none).run Tryz.prog W = .ok (.slice (some ⟨b, l, none⟩) (16 - l) (16 - l)) W := by
  have e2 : (l : Int) ≤ 16 := by omega
  have e3 : ¬ 16 = l := by omega
  simp [Instr.sliceAt, Instr.sureAddr, run_underlying Tryz.underlying34, Instr.sliceBounds, run_sliceBound, go_sem, e2, e3, Addr.add]
  omega
theorem sliceArr4 (b : Nat) (W : World) : (Instr.sliceAt 224 (.pointer (some ⟨b, 0, none⟩)) none none none).run Tryz.prog W = .ok (.slice (some ⟨b, 0, none⟩) 4 4) W := by
  simp [Instr.sliceAt, Instr.sureAddr, run_underlying Tryz.underlying224, Instr.sliceBounds, go_sem, Addr.add]
theorem sliceArr16 (b : Nat) (W : World) : (Instr.sliceAt 34 (.pointer (some ⟨b, 0, none⟩)) none none none).run Tryz.prog W = .ok (.slice (some ⟨b, 0, none⟩) 16 16) W := by
  simp [Instr.sliceAt, Instr.sureAddr, run_underlying Tryz.underlying34, Instr.sliceBounds, go_sem, Addr.add]
/-- A slice as an array of four. -/
theorem execArr4 {x : Operand} {ad : Option Addr} {n c : Nat} (ho : o.op = .sliceToArrayPointer 224 x) (hx : a.eval x = .slice ad n c) (hn : 4 ≤ n) : (execOp a.eval o).run Tryz.prog w = .ok (.value (.pointer ad)) w := by
  have e : ¬ n < 4 := by omega
  unfold execOp
  simp only [ho, hx]
  simp [Instr.arrayAt, run_underlying Tryz.underlying224, e]
end
theorem bytesL_col (c : Nat → Nat) : (bytesL 4 c).toArray = col c := rfl

/-- A function of columns as a value. -/
structure FnC (g : Nat) (f : Nat → Nat) (V : World) : Prop where
  enters : Enters Tryz.prog g
  gives : ∀ (c : Nat → Nat) (W : World), (∀ i, i < 4 → c i < 256) → Below V.heap.size V W → Calls Tryz.prog g #[.agg (col c)] W fun e w' => e = .returned (.agg (col (mixk f c))) ∧ Below W.heap.size W w'
/-- The rows of mixed. -/
structure MiT (A n : Nat) (f b : Nat → Nat) (V W : World) : Prop where
  s : W.heap[A]? = some (.cells (bA 16 (mixU (mixB f b) b n)) 34)
  r : W.heap[A + 1]? = some (.cells (bA 16 fun _ => 0) 34)
  bel : Below A V W
theorem MiT.lt {A n : Nat} {f b : Nat → Nat} {V W : World} (h : MiT A n f b V W) : A + 1 < W.heap.size := (Array.getElem?_eq_some_iff.1 h.r).1
theorem MiT.on {A n : Nat} {f b : Nat → Nat} {V W W' : World} (h : MiT A n f b V W) (hb : Below W.heap.size W W') : MiT A n f b V W' := by
  have l := h.lt
  exact ⟨by rw [hb.block _ (by omega)]; exact h.s, by rw [hb.block _ (by omega)]; exact h.r, h.bel.trans (hb.mono (by omega))⟩
/-- What each operation of copy(b[i:], column[:]) yields. -/
def cpV (A T n : Nat) (j : Nat) : Value :=
  match j with
  | 0 => .int .i64 n | 1 => .slice (some ⟨A, n, none⟩) (16 - n) (16 - n) | 2 => .slice (some ⟨T, 0, none⟩) 4 4 | 3 => .int .i64 4 | _ => undef
/-- The rows within that region. -/
structure CpT (A T n : Nat) (f b d : Nat → Nat) (V : World) (l : Nat → Bool) (W : World) : Prop where
  m : MiT A (if l 3 = true then n + 4 else n) f b V W
  t : W.heap[T]? = some (.cells (col d) 224)
theorem mixB_col (f b : Nat → Nat) {n r : Nat} (hn : n % 4 = 0) (hr : r < 4) : mixB f b (n + r) = mixk f (fun s => b (n + s)) r := by
  unfold mixB
  rw [show (n + r) / 4 * 4 = n by omega, show (n + r) % 4 = r by omega]
theorem spl_mix (f b : Nat → Nat) {n : Nat} (hn : n % 4 = 0) : spl (mixU (mixB f b) b n) n 4 (mixk f fun s => b (n + s)) = mixU (mixB f b) b (n + 4) := by
  funext i
  unfold spl mixU
  by_cases h1 : n ≤ i ∧ i < n + 4
  · rw [if_pos h1, if_pos h1.2, show i = n + (i - n) by omega, mixB_col f b hn (by omega), show n + (i - n) - n = i - n by omega]
  · rw [if_neg h1]
    by_cases h2 : i < n
    · rw [if_pos h2, if_pos (by omega)]
    · rw [if_neg h2, if_neg (by omega)]

set_option maxRecDepth 20000 in
set_option maxHeartbeats 400000 in
theorem pmixed_any (g : Nat) (f b : Nat → Nat) (V : World) (hF : FnC g f V) (hb : By b) :
    Calls Tryz.prog 145 #[.agg (bA 16 b), .func (.func g) #[] #[]] V fun e w' => e = .returned (.agg (bA 16 (mixB f b))) ∧ Below V.heap.size V w' := by
  have HB : Hid (By b) := hb
  have HF : Hid (FnC g f V) := hF
  have eg : ∀ (args : Array Value) (w : World), (callFunc g args).run Tryz.prog w = .ok (.enter g args) w := hF.enters
  clear hb hF
  have z := zero16
  go_enter Tryz.func145, Tryz.ntmps145
  go_wp2_with fail
  have t0 : MiT V.heap.size 0 f b V ((V.alloc (.cells (bA 16 b) 34)).alloc (.cells (bA 16 fun _ => 0) 34)) := by
    have h := heap2c V (.cells (bA 16 b) 34) (.cells (bA 16 fun _ => 0) 34)
    exact ⟨h.1, h.2, below2c _ _ _⟩
  obtain ⟨A, hA⟩ : ∃ A, A = V.heap.size := ⟨_, rfl⟩
  rw [← hA] at t0 ⊢
  have VA : Hid (V.heap.size = A) := hA.symm
  have T0 : Hid (_) := t0
  clear z t0 hA
  go_loopw [5] (fun x W => ∃ n : Nat, n ≤ 16 ∧ n % 4 = 0 ∧ x = .int .i64 n ∧ MiT A n f b V W) (fun x _ => 16 - (intOf x).toNat)
  case atStart => exact ⟨0, by omega, rfl, rfl, T0.out⟩
  case round =>
    obtain ⟨n, hn, hn4, rfl, kt⟩ := hrel
    clear T0
    by_cases hlt : n < 16
    · have i1 : (n : Int) < 16 := by omega
      obtain ⟨n4, h4⟩ : ∃ x, n + 4 = x := ⟨_, rfl⟩
      have e4 : (n : Int) + 4 = n4 := by omega
      have l4 : (n4 : Int) < 20 := by omega
      have HL : Hid (n < 16 ∧ n % 4 = 0 ∧ n + 4 = n4) := ⟨hlt, hn4, h4⟩
      have RG : Hid (wr.rangeAt A n (bytesL 4 fun s => b (n + s))) := by
        intro j v hj
        have hj4 : j < 4 := by have := (List.getElem?_eq_some_iff.1 hj).1; rwa [bytesL_len] at this
        rw [bytesL_at 4 _ hj4] at hj
        rw [← hj, cellN kt.s (by omega)]
        unfold mixU; rw [if_neg (by omega)]
      have CF := HF.out.gives (fun s => b (n + s)) wr (fun i hi => HB.out _ (by omega)) (by rw [VA.out]; exact kt.bel)
      have KT : Hid (_) := kt
      have z4 : ∀ W, (zeroValue 224).run Tryz.prog W = .ok (.agg (col fun _ => 0)) W := (zero_of_info (n := 4) (by kernel_rfl)).1
      clear hlt hn hn4 h4 kt
      go_wp2_with (first
        | (refine wpList_ex rfl (execCutLH rfl rfl rfl rfl (sliceArrLH A n n4 HL.out.1 (by have := HL.out; omega) (by have := HL.out; omega) _)) ?_)
        | (refine wpList_ex rfl (execArr4 rfl rfl (by have := HL.out; omega)) ?_)
        | (refine atLoad 224 (.tmp 16) rfl ?_; go_must (refine wpList_ex rfl (execLoadMid rfl rfl RG.out Tryz.underlying224 rfl (by rw [bytesL_len]; kernel_rfl)) ?_; rw [bytesL_col]))
        | (go_at_fn g; refine CF.mono ?_; rintro e w1 ⟨rfl, hb1⟩; have kt := KT.out.on hb1)
        | (refine atStore 224 (.tmp 6) (.tmp 18) rfl ?_; go_must (refine wpList_store_row rfl 224 (.tmp 6) (.tmp 18) rfl w1.heap.size _ rfl rfl 224 _ (heapNew w1 _) (size4' _) rfl (col_one _) ?_)))
      have tA : A + 1 < w1.heap.size := kt.lt
      have k2 : MiT A n f b V ((w1.alloc (.cells (col fun _ => 0) 224)).setRow w1.heap.size (col (mixk f fun s => b (n + s)))) := by
        have k1 := kt.on (belNew w1 (.cells (col fun _ => 0) 224))
        exact ⟨by rw [setRow_other _ _ _ _ (by omega)]; exact k1.s, by rw [setRow_other _ _ _ _ (by omega)]; exact k1.r, below4 k1.bel (by omega) _⟩
      have gT : ((w1.alloc (.cells (col fun _ => 0) 224)).setRow w1.heap.size (col (mixk f fun s => b (n + s)))).heap[w1.heap.size]? = some (.cells (col (mixk f fun s => b (n + s))) 224) := setRow_heap _ _ _ _ _ _ (heapNew w1 _)
      obtain ⟨T, hT⟩ : ∃ T, T = w1.heap.size := ⟨_, rfl⟩
      obtain ⟨W0, hW⟩ : ∃ W0, W0 = (w1.alloc (.cells (col fun _ => 0) 224)).setRow w1.heap.size (col (mixk f fun s => b (n + s))) := ⟨_, rfl⟩
      rw [← hW] at k2 gT ⊢
      rw [← hT] at gT tA ⊢
      have CT : Hid (CpT A T n f b (mixk f fun s => b (n + s)) V (fun _ => false) W0) := ⟨k2, gT⟩
      have LT : Hid (A + 1 < T) := tA
      clear k2 gT hW hT hb1 kt KT CF RG tA z4
      refine wp_region_det 24 [(0, 19), (1, 20), (2, 21), (3, 22)] (cpV A T n) (CpT A T n f b (mixk f fun s => b (n + s)) V) (by kernel_rfl) (by kernel_rfl) rfl (by kernel_rfl) (by decide) (by decide) ?_ ?_ ?_
      · exact ⟨⟨CT.out.m.s, CT.out.m.r, CT.out.m.bel.drew⟩, CT.out.t⟩
      · intro j hj l a W hl hf hdep hl2 hcl _ hT
        have hL := HL.out
        match j, hj with
        | 0, _ => exact stepV rfl rfl (execMvB rfl (hf 5 (by decide))) ⟨⟨_, rfl, rfl⟩, ⟨hT.m, hT.t⟩⟩
        | 1, _ => exact stepV rfl rfl (execCutL rfl (hf 2 (by decide)) (hdep _ rfl 0 rfl _ rfl _ rfl) (sliceArrL A n hL.1 _)) ⟨⟨_, rfl, rfl⟩, ⟨hT.m, hT.t⟩⟩
        | 2, _ => exact stepV rfl rfl (execSlice rfl (hf 6 (by decide)) (sliceArr4 T _)) ⟨⟨_, rfl, rfl⟩, ⟨hT.m, hT.t⟩⟩
        | 3, _ =>
          have hm := hT.m
          rw [hl, if_neg (by decide)] at hm
          have hmin : Nat.min 4 (16 - n) = 4 := by show min 4 (16 - n) = 4; omega
          refine stepV rfl rfl (execCopyB (cs := bytesL 4 (mixk f fun s => b (n + s))) rfl (hdep _ rfl 1 rfl _ rfl _ rfl) (hdep _ rfl 2 rfl _ rfl _ rfl) hm.s (by rw [bytesL_len, hmin]) ?_ (by rw [bytesL_len, bA_size]; omega) ?_) ⟨⟨_, rfl, rfl⟩, ⟨⟨?_, ?_, below4 hm.bel (Nat.le_refl _) _⟩, ?_⟩⟩
          · intro j v hj
            have hj4 : j < 4 := by have := (List.getElem?_eq_some_iff.1 hj).1; rwa [bytesL_len] at this
            rw [bytesL_at 4 _ hj4] at hj
            rw [Addr.add_mid, cell_of_row _ _ _ _ _ _ hT.t, Nat.zero_add, ← hj]
            exact col_at _ hj4
          · intro u hu
            simp only [bytesL, List.mem_map] at hu
            obtain ⟨z, _, rfl⟩ := hu
            rfl
          · rw [setRow_heap _ _ _ _ _ _ hm.s, bytesL_len, bA_splice 16 n 4 _ _ (by omega), spl_mix f b hL.2.1]
            rfl
          · rw [setRow_other _ _ _ _ (by omega)]; exact hm.r
          · rw [setRow_other _ _ _ _ (by have := LT.out; omega)]; exact hT.t
        | n + 4, h => exact absurd h (by simp)
      · intro l W hall hT
        have he := hT.m
        rw [hall 3 (by simp), if_pos rfl] at he
        have KT2 : Hid (MiT A (n + 4) f b V W) := he
        clear hall hT he CT
        simp only [putP, cpV, Act.put, List.setIfInBounds_toArray, List.set_cons_succ, List.set_cons_zero]
        go_wp2
        go_roundw
        case rel => exact ⟨n + 4, by have := HL.out; omega, by have := HL.out; omega, by have := HL.out; go_num, KT2.out⟩
        case measure => have := HL.out; simp [intOf]; omega
    · have i1 : ¬ (n : Int) < 16 := by omega
      have ek : n = 16 := by omega
      subst ek
      have G : Hid (wr.heap[A]? = some (.cells (bA 16 (mixB f b)) 34)) := by
        have h := kt.s
        rw [bA_congr (g := mixB f b) (fun j hj => by unfold mixU; rw [if_pos hj])] at h
        exact h
      go_wp2_with (first
        | (refine atLoad 34 (.tmp 2) rfl ?_; go_must (refine wpList_load_row rfl 34 (.tmp 2) rfl A rfl 34 _ (0, 0) _ G.out Tryz.underlying34 rfl (size16 _) ?_; simp only [Act.put, List.setIfInBounds_toArray, List.set_cons_succ, List.set_cons_zero]))
        | (refine atStore 34 (.tmp 4) (.tmp 23) rfl ?_; go_must (refine wpList_store_row rfl 34 (.tmp 4) (.tmp 23) rfl (A + 1) _ rfl rfl 34 _ kt.r (size16 _) rfl (bA_one _ _) ?_)))
      refine bodyPost_ret (v := .agg (bA 16 (mixB f b))) (results_cell_row Tryz.results145 _ _ (A + 1) 34 _ (0, 0) _ rfl (setRow_heap _ _ _ _ _ _ kt.r) Tryz.underlying34 rfl (size16 _)) rfl ⟨rfl, ?_⟩
      rw [VA.out]
      exact below4 kt.bel (by omega) _
end Go.Proofs.YtjckkdjldnobmaaGreatDoor.Aes

namespace Go.Proofs.YtjckkdjldnobmaaGreatDoor.Gf8
open Go.RowKit

/-- a times x^k. -/
def xk (a : Nat) : Nat → Nat
  | 0 => a
  | k + 1 => xt (xk a k)
theorem xk_lt {a : Nat} (ha : a < 256) (k : Nat) : xk a k < 256 := by
  induction k with
  | zero => exact ha
  | succ k ih => exact xt_lt ih
/-- The product by the first k bits of b, from below. -/
def fm (a b : Nat) : Nat → Nat
  | 0 => 0
  | k + 1 => fm a b k ^^^ pick (b.testBit k) (xk a k)
theorem fm_lt {a : Nat} (ha : a < 256) (b k : Nat) : fm a b k < 256 := by
  induction k with
  | zero => exact (by decide : (0 : Nat) < 256)
  | succ k ih => exact xor_lt ih (pick_lt (xk_lt ha k))
theorem fm_more (a b : Nat) : ∀ k j : Nat, fm a b j ^^^ gmN k (xk a j) (b / 2 ^ j) = fm a b (j + k) := by
  intro k
  induction k with
  | zero => intro j; exact Nat.xor_zero _
  | succ k ih =>
    intro j
    show fm a b j ^^^ (pick ((b / 2 ^ j).testBit 0) (xk a j) ^^^ gmN k (xt (xk a j)) (b / 2 ^ j / 2)) = _
    rw [Nat.testBit_div_two_pow, Nat.zero_add, ← Nat.xor_assoc, Nat.div_div_eq_div_mul, ← Nat.pow_succ]
    have := ih (j + 1)
    rw [show j + 1 + k = j + (k + 1) by omega] at this
    exact this
theorem fm_gm (a b : Nat) : fm a b 8 = gm a b := by
  have h := fm_more a b 8 0
  rw [Nat.zero_add] at h
  rw [← h]
  show 0 ^^^ gmN 8 a (b / 2 ^ 0) = gm a b
  rw [Nat.zero_xor, Nat.pow_zero, Nat.div_one]
  rfl
theorem double_all : ∀ a : Fin 256, (a.val * 2 % 256) ^^^ (27 &&& ((256 - a.val / 128) % 256)) = xt a.val := by decide +kernel
set_option maxRecDepth 20000 in
set_option maxHeartbeats 400000 in
theorem double_any (a : Nat) (w : World) (ha : a < 256) :
    Calls Tryz.prog 153 #[.int .u8 a] w fun e w' => e = .returned (.int .u8 (xt a : Nat)) ∧ w' = w := by
  have e1 : ((a : Int) * 2 % 256) = ((a * 2 % 256 : Nat) : Int) := by omega
  have e2 : (-((a : Int) / 128) % 256) = (((256 - a / 128) % 256 : Nat) : Int) := by omega
  have q : Hid (bits BinOp.xor IntKind.u8 ((a : Int) * 2 % 256) (bits BinOp.and IntKind.u8 27 (-((a : Int) / 128) % 256)) = ((xt a : Nat) : Int)) := by
    show bits BinOp.xor IntKind.u8 ((a : Int) * 2 % 256) (bits BinOp.and IntKind.u8 27 (-((a : Int) / 128) % 256)) = ((xt a : Nat) : Int)
    rw [e1, e2, show (27 : Int) = ((27 : Nat) : Int) from rfl, and_u8 (by omega) (by omega), xor_u8 (by omega) (Nat.and_lt_two_pow (n := 8) _ (by omega)), double_all ⟨a, ha⟩]
  clear e1 e2
  go_enter Tryz.func153, Tryz.ntmps153
  go_wp2
  go_ret
  exact ⟨congrArg (fun x => Ending.returned (Value.int .u8 x)) q.out, rfl⟩

theorem and_pick (a : Nat) (c : Bool) (ha : a < 256) : bits BinOp.and IntKind.u8 (a : Int) (-(if c then 1 else 0 : Int) % 256) = ((pick c a : Nat) : Int) := by
  cases c
  · show bits BinOp.and IntKind.u8 (a : Int) ((0 : Nat) : Int) = _
    rw [and_u8 ha (by omega), Nat.and_zero]; rfl
  · show bits BinOp.and IntKind.u8 (a : Int) ((255 : Nat) : Int) = _
    rw [and_u8 ha (by omega), show (255 : Nat) = 2 ^ 8 - 1 from rfl, Nat.and_two_pow_sub_one_eq_mod, Nat.mod_eq_of_lt ha]; rfl

set_option maxRecDepth 20000 in
set_option maxHeartbeats 400000 in
theorem mul_any (a b : Nat) (w : World) (ha : a < 256) (hb : b < 256) :
    Calls Tryz.prog 141 #[.int .u8 a, .int .u8 b] w fun e w' => e = .returned (.int .u8 (gm a b : Nat)) ∧ w' = w := by
  go_enter Tryz.func141, Tryz.ntmps141
  go_wp2
  go_loopw [0, 5, 7] (fun x s i W => ∃ k : Nat, k ≤ 8 ∧ x = .int .u8 (xk a k : Nat) ∧ s = .int .u8 (fm a b k : Nat) ∧ i = .int .i64 k ∧ W = w) (fun _ _ i _ => 8 - (intOf i).toNat)
  case atStart => exact ⟨0, by omega, rfl, rfl, rfl, rfl⟩
  case round =>
    obtain ⟨k, hk, rfl, rfl, rfl, rfl⟩ := hrel
    by_cases hlt : k < 8
    · have i1 : (k : Int) < 8 := by omega
      have i0 : (0 : Int) ≤ (k : Int) := by omega
      have i2 : min k 8 = k := by omega
      have e1 := bit_u8 hb k
      have e2 : Hid (bits BinOp.xor IntKind.u8 ((fm a b k : Nat) : Int) (bits BinOp.and IntKind.u8 ((xk a k : Nat) : Int) (-(if b.testBit k then 1 else 0 : Int) % 256)) = ((fm a b (k + 1) : Nat) : Int)) := by
        show bits BinOp.xor IntKind.u8 ((fm a b k : Nat) : Int) (bits BinOp.and IntKind.u8 ((xk a k : Nat) : Int) (-(if b.testBit k then 1 else 0 : Int) % 256)) = ((fm a b (k + 1) : Nat) : Int)
        rw [and_pick _ _ (xk_lt ha k), xor_u8 (fm_lt ha b k) (pick_lt (xk_lt ha k))]
        rfl
      go_wp2_with (go_at_call 153; refine (double_any (xk a k) _ (xk_lt ha k)).mono ?_; rintro e w' ⟨rfl, rfl⟩)
      go_roundw
      case rel => exact ⟨k + 1, by omega, rfl, by rw [e2.out], by go_num, trivial⟩
      case measure => simp [intOf]; omega
    · have i1 : ¬ (k : Int) < 8 := by omega
      have e8 : k = 8 := by omega
      subst e8
      go_wp2
      go_ret
      exact ⟨congrArg (fun x : Nat => Ending.returned (Value.int .u8 x)) (fm_gm a b), rfl⟩

end Go.Proofs.YtjckkdjldnobmaaGreatDoor.Gf8

namespace Go.Proofs.YtjckkdjldnobmaaGreatDoor.Gf8
open Go.RowKit

/-- How many bits a byte has. -/
def lenT : ByteArray := ⟨#[0, 1, 2, 2, 3, 3, 3, 3, 4, 4, 4, 4, 4, 4, 4, 4, 5, 5, 5, 5, 5, 5, 5, 5, 5, 5, 5, 5, 5, 5, 5, 5, 6, 6, 6, 6, 6, 6, 6, 6, 6, 6, 6, 6, 6, 6, 6, 6, 6, 6, 6, 6, 6, 6, 6, 6, 6, 6, 6, 6, 6, 6, 6, 6, 7, 7, 7, 7, 7, 7, 7, 7, 7, 7, 7, 7, 7, 7, 7, 7, 7, 7, 7, 7, 7, 7, 7, 7, 7, 7, 7, 7, 7, 7, 7, 7, 7, 7, 7, 7, 7, 7, 7, 7, 7, 7, 7, 7, 7, 7, 7, 7, 7, 7, 7, 7, 7, 7, 7, 7, 7, 7, 7, 7, 7, 7, 7, 7, 8, 8, 8, 8, 8, 8, 8, 8, 8, 8, 8, 8, 8, 8, 8, 8, 8, 8, 8, 8, 8, 8, 8, 8, 8, 8, 8, 8, 8, 8, 8, 8, 8, 8, 8, 8, 8, 8, 8, 8, 8, 8, 8, 8, 8, 8, 8, 8, 8, 8, 8, 8, 8, 8, 8, 8, 8, 8, 8, 8, 8, 8, 8, 8, 8, 8, 8, 8, 8, 8, 8, 8, 8, 8, 8, 8, 8, 8, 8, 8, 8, 8, 8, 8, 8, 8, 8, 8, 8, 8, 8, 8, 8, 8, 8, 8, 8, 8, 8, 8, 8, 8, 8, 8, 8, 8, 8, 8, 8, 8, 8, 8, 8, 8, 8, 8, 8, 8, 8, 8, 8, 8, 8, 8, 8, 8, 8, 8]⟩
theorem lenT_size : lenT.size = 256 := by decide +kernel
theorem len_all : ∀ j : Fin 256, (lenT[j.val]'(by rw [lenT_size]; exact j.isLt)).toNat ≤ 8 ∧ j.val < 2 ^ (lenT[j.val]'(by rw [lenT_size]; exact j.isLt)).toNat := by decide +kernel
theorem len_at (c n j : Nat) (hc : c ≤ 56) (hj : n / 2 ^ c = j) (h : j < lenT.size) : ∃ L : Nat, wrap64 ((c : Int) + wrap64 (((lenT[j]'h).toNat : Nat) : Int)) = (L : Int) ∧ L ≤ 64 ∧ n < 2 ^ L := by
  have h2 : j < 256 := by rw [← lenT_size]; exact h
  obtain ⟨l1, l2⟩ := len_all ⟨j, h2⟩
  simp only at l1 l2
  obtain ⟨x, hx⟩ : ∃ x, x = (lenT[j]'h).toNat := ⟨_, rfl⟩
  rw [← hx] at l1 l2 ⊢
  refine ⟨c + x, ?_, by omega, ?_⟩
  · unfold wrap64; omega
  · rw [Nat.pow_add, Nat.mul_comm]
    rw [← hj] at l2
    exact (Nat.div_lt_iff_lt_mul (Nat.two_pow_pos c)).1 l2

theorem len_close {T : ByteArray} {c' : Int} {j : Nat} {h : j < T.size} (hT : T = lenT) (c n : Nat) (hc' : c' = c) (hc : c ≤ 56) (hj : n / 2 ^ c = j) (w : World) :
    ∃ L : Nat, Ending.returned (Value.int .i64 (wrap64 (c' + wrap64 (((T[j]'h).toNat : Nat) : Int)))) = .returned (.int .i64 L) ∧ L ≤ 64 ∧ n < 2 ^ L ∧ w = w := by
  subst hT hc'
  obtain ⟨L, g1, g2, g3⟩ := len_at c n j hc hj h
  exact ⟨L, by rw [g1], g2, g3, rfl⟩
theorem len_close0 {T : ByteArray} {j : Nat} {h : j < T.size} (hT : T = lenT) (n : Nat) (hj : n = j) (w : World) :
    ∃ L : Nat, Ending.returned (Value.int .i64 (wrap64 (wrap64 (((T[j]'h).toNat : Nat) : Int)))) = .returned (.int .i64 L) ∧ L ≤ 64 ∧ n < 2 ^ L ∧ w = w := by
  have e := len_close (h := h) (c' := 0) hT 0 n rfl (by omega) (by simpa using hj) w
  rw [Int.zero_add] at e
  exact e

set_option maxRecDepth 20000 in
set_option maxHeartbeats 400000 in
theorem len64_any (n : Nat) (w : World) (hn : n < 2 ^ 64) :
    Calls Tryz.prog 165 #[.int .u64 n] w fun e w' => ∃ L : Nat, e = .returned (.int .i64 L) ∧ L ≤ 64 ∧ n < 2 ^ L ∧ w' = w := by
  by_cases h0 : (n : Int) ≥ 4294967296
  · obtain ⟨x, g0⟩ : ∃ x, n / 4294967296 = x := ⟨_, rfl⟩
    have r0 : (n : Int) / 4294967296 = (x : Int) := by omega
    by_cases h1 : (x : Int) ≥ 65536
    · obtain ⟨y, g1⟩ : ∃ y, x / 65536 = y := ⟨_, rfl⟩
      have r1 : (x : Int) / 65536 = (y : Int) := by omega
      by_cases h2 : (y : Int) ≥ 256
      · obtain ⟨z, g2⟩ : ∃ z, y / 256 = z := ⟨_, rfl⟩
        have r2 : (y : Int) / 256 = (z : Int) := by omega
        have HJ : Hid (n / 2 ^ 56 = z) := by show n / 2 ^ 56 = z; omega
        have l : (z : Int) < 256 := by omega
        clear hn
        clear g0
        clear g1
        clear g2
        go_enter Tryz.func165, Tryz.ntmps165
        go_wp2
        go_ret
        exact len_close rfl 56 n rfl (by omega) HJ.out w
      · have HJ : Hid (n / 2 ^ 48 = y) := by show n / 2 ^ 48 = y; omega
        have l : (y : Int) < 256 := by omega
        clear hn
        clear g0
        clear g1
        go_enter Tryz.func165, Tryz.ntmps165
        go_wp2
        go_ret
        exact len_close rfl 48 n rfl (by omega) HJ.out w
    · by_cases h2 : (x : Int) ≥ 256
      · obtain ⟨z, g2⟩ : ∃ z, x / 256 = z := ⟨_, rfl⟩
        have r2 : (x : Int) / 256 = (z : Int) := by omega
        have HJ : Hid (n / 2 ^ 40 = z) := by show n / 2 ^ 40 = z; omega
        have l : (z : Int) < 256 := by omega
        clear hn
        clear g0
        clear g2
        go_enter Tryz.func165, Tryz.ntmps165
        go_wp2
        go_ret
        exact len_close rfl 40 n rfl (by omega) HJ.out w
      · have HJ : Hid (n / 2 ^ 32 = x) := by show n / 2 ^ 32 = x; omega
        have l : (x : Int) < 256 := by omega
        clear hn
        clear g0
        go_enter Tryz.func165, Tryz.ntmps165
        go_wp2
        go_ret
        exact len_close rfl 32 n rfl (by omega) HJ.out w
  · by_cases h1 : (n : Int) ≥ 65536
    · obtain ⟨y, g1⟩ : ∃ y, n / 65536 = y := ⟨_, rfl⟩
      have r1 : (n : Int) / 65536 = (y : Int) := by omega
      by_cases h2 : (y : Int) ≥ 256
      · obtain ⟨z, g2⟩ : ∃ z, y / 256 = z := ⟨_, rfl⟩
        have r2 : (y : Int) / 256 = (z : Int) := by omega
        have HJ : Hid (n / 2 ^ 24 = z) := by show n / 2 ^ 24 = z; omega
        have l : (z : Int) < 256 := by omega
        clear hn
        clear g1
        clear g2
        go_enter Tryz.func165, Tryz.ntmps165
        go_wp2
        go_ret
        exact len_close rfl 24 n rfl (by omega) HJ.out w
      · have HJ : Hid (n / 2 ^ 16 = y) := by show n / 2 ^ 16 = y; omega
        have l : (y : Int) < 256 := by omega
        clear hn
        clear g1
        go_enter Tryz.func165, Tryz.ntmps165
        go_wp2
        go_ret
        exact len_close rfl 16 n rfl (by omega) HJ.out w
    · by_cases h2 : (n : Int) ≥ 256
      · obtain ⟨z, g2⟩ : ∃ z, n / 256 = z := ⟨_, rfl⟩
        have r2 : (n : Int) / 256 = (z : Int) := by omega
        have HJ : Hid (n / 2 ^ 8 = z) := by show n / 2 ^ 8 = z; omega
        have l : (z : Int) < 256 := by omega
        clear hn
        clear g2
        go_enter Tryz.func165, Tryz.ntmps165
        go_wp2
        go_ret
        exact len_close rfl 8 n rfl (by omega) HJ.out w
      · have HJ : Hid (n / 2 ^ 0 = n) := by show n / 2 ^ 0 = n; omega
        have l : (n : Int) < 256 := by omega
        clear hn
        go_enter Tryz.func165, Tryz.ntmps165
        go_wp2
        go_ret
        exact len_close0 rfl n rfl w

set_option maxRecDepth 20000 in
theorem len_any (n : Nat) (w : World) (hn : n < 2 ^ 64) :
    Calls Tryz.prog 163 #[.int .u64 n] w fun e w' => ∃ L : Nat, e = .returned (.int .i64 L) ∧ L ≤ 64 ∧ n < 2 ^ L ∧ w' = w := by
  go_enter Tryz.func163, Tryz.ntmps163
  have m : (n : Int) % 18446744073709551616 = n := by omega
  go_wp2_with (go_at_call 165; refine (len64_any n _ hn).mono ?_; rintro e w' ⟨L, rfl, hl, hm, rfl⟩)
  go_ret
  exact ⟨L, rfl, hl, hm, rfl⟩

end Go.Proofs.YtjckkdjldnobmaaGreatDoor.Gf8

namespace Go.Proofs.YtjckkdjldnobmaaGreatDoor.Gf8
open Go.RowKit

theorem and_u64 {a b : Nat} (ha : a < 2 ^ 64) (hb : b < 2 ^ 64) : bits .and .u64 (a : Int) (b : Int) = ((a &&& b : Nat) : Int) := by
  show IntKind.u64.wrap ((BitVec.ofInt 64 (a : Int) &&& BitVec.ofInt 64 (b : Int)).toNat : Int) = _
  have h := Nat.and_lt_two_pow (n := 64) a hb
  rw [BitVec.toNat_and, BitVec.ofInt_natCast, BitVec.ofInt_natCast, BitVec.toNat_ofNat, BitVec.toNat_ofNat, Nat.mod_eq_of_lt ha, Nat.mod_eq_of_lt hb]
  simp only [IntKind.wrap, IntKind.bits, IntKind.signed]
  simp
  omega
theorem bit_u64 {b : Nat} (hb : b < 2 ^ 64) (i : Nat) : bits .and .u64 ((b : Int) / 2 ^ i) 1 = ((b / 2 ^ i % 2 : Nat) : Int) := by
  have e : ((b : Int) / 2 ^ i) = ((b / 2 ^ i : Nat) : Int) := by simp
  have h : b / 2 ^ i < 2 ^ 64 := Nat.lt_of_le_of_lt (Nat.div_le_self _ _) hb
  rw [e, show (1 : Int) = ((1 : Nat) : Int) from rfl, and_u64 h (by omega), Nat.and_one_is_mod]

theorem mod_step (n k : Nat) : n % 2 ^ (k + 1) = n % 2 ^ k + 2 ^ k * (n / 2 ^ k % 2) := by
  rw [Nat.pow_succ, Nat.mod_mul]
theorem gpow_dbl {a : Nat} (ha : a < 256) (k : Nat) : gm (gpow a (2 ^ k)) (gpow a (2 ^ k)) = gpow a (2 ^ (k + 1)) := by
  rw [← gpow_add ha, Nat.pow_succ, Nat.mul_two]

set_option maxRecDepth 20000 in
set_option maxHeartbeats 400000 in
theorem power_any (a n : Nat) (w : World) (ha : a < 256) (hn : n < 2 ^ 64) :
    Calls Tryz.prog 160 #[.int .u8 a, .int .u64 n] w fun e w' => e = .returned (.int .u8 (gpow a n : Nat)) ∧ w' = w := by
  go_enter Tryz.func160, Tryz.ntmps160
  go_wp2_with (go_at_call 163; refine (len_any n _ hn).mono ?_; rintro e w' ⟨L, rfl, hl, hm, rfl⟩)
  go_loopw [0, 5, 9] (fun x p i W => ∃ k : Nat, k ≤ L ∧ x = .int .u8 (gpow a (2 ^ k) : Nat) ∧ p = .int .u8 (gpow a (n % 2 ^ k) : Nat) ∧ i = .int .i64 k ∧ W = w') (fun _ _ i _ => L - (intOf i).toNat)
  case atStart => exact ⟨0, by omega, by rw [Nat.pow_zero, gpow_one ha], by rw [Nat.pow_zero, Nat.mod_one]; rfl, rfl, rfl⟩
  case round =>
    obtain ⟨k, hk, rfl, rfl, rfl, rfl⟩ := hrel
    have HN : Hid (_) := hn
    have HM : Hid (_) := hm
    clear hn hm
    by_cases hlt : k < L
    · have i1 : (k : Int) < L := by omega
      have i0 : (0 : Int) ≤ (k : Int) := by omega
      have i2 : min k 64 = k := by omega
      have e1 := bit_u64 HN.out k
      obtain ⟨x, hx⟩ : ∃ x, gpow a (2 ^ k) = x := ⟨_, rfl⟩
      obtain ⟨p, hp⟩ : ∃ p, gpow a (n % 2 ^ k) = p := ⟨_, rfl⟩
      have x1 : x < 256 := by rw [← hx]; exact gpow_lt _
      have p1 : p < 256 := by rw [← hp]; exact gpow_lt _
      have X : Hid (gm x x = gpow a (2 ^ (k + 1))) := by show gm x x = gpow a (2 ^ (k + 1)); rw [← hx, gpow_dbl ha]
      rw [hx, hp]
      by_cases hbit : n / 2 ^ k % 2 = 1
      · rw [hbit] at e1
        have e1' : bits .and .u64 ((n : Int) / 2 ^ k) 1 = 1 := e1
        have q : Hid (gm p x = gpow a (n % 2 ^ (k + 1))) := by
          show gm p x = gpow a (n % 2 ^ (k + 1))
          rw [mod_step, hbit, Nat.mul_one, gpow_add ha, hx, hp]
        clear e1 hbit hx hp
        go_wp2_with (go_at_call 141; refine (mul_any _ _ _ (by assumption) (by assumption)).mono ?_; rintro e w' ⟨rfl, rfl⟩)
        go_roundw
        case rel => exact ⟨k + 1, by omega, by rw [X.out], by rw [q.out], by go_num, trivial⟩
        case measure => simp [intOf]; omega
      · have hbit0 : n / 2 ^ k % 2 = 0 := by omega
        rw [hbit0] at e1
        have e1' : bits .and .u64 ((n : Int) / 2 ^ k) 1 = 0 := e1
        have q : Hid (p = gpow a (n % 2 ^ (k + 1))) := by
          show p = gpow a (n % 2 ^ (k + 1))
          rw [mod_step, hbit0, Nat.mul_zero, Nat.add_zero, hp]
        clear e1 hbit hbit0 hx hp
        go_wp2_with (go_at_call 141; refine (mul_any x x _ x1 x1).mono ?_; rintro e w' ⟨rfl, rfl⟩)
        go_roundw
        case rel => exact ⟨k + 1, by omega, by rw [X.out], by rw [q.out], by go_num, trivial⟩
        case measure => simp [intOf]; omega
    · have i1 : ¬ (k : Int) < L := by omega
      have ek : k = L := by omega
      subst ek
      have q : Hid (n % 2 ^ k = n) := Nat.mod_eq_of_lt HM.out
      go_wp2
      go_ret
      exact ⟨congrArg (fun x : Nat => Ending.returned (Value.int .u8 (gpow a x : Nat))) q.out, rfl⟩

theorem inv_is {a : Nat} (ha : a < 256) : gpow a 254 = ginv a := by
  by_cases h : a = 0
  · subst h; exact gpow_zero (by omega)
  · exact (ginv_pow ha h).symm
set_option maxRecDepth 20000 in
theorem inv_any (a : Nat) (w : World) (ha : a < 256) :
    Calls Tryz.prog 152 #[.int .u8 a] w fun e w' => e = .returned (.int .u8 (ginv a : Nat)) ∧ w' = w := by
  have q : Hid (gpow a 254 = ginv a) := inv_is ha
  go_enter Tryz.func152, Tryz.ntmps152
  go_wp2_with (go_at_call 160; refine (power_any a 254 _ ha (by omega)).mono ?_; rintro e w' ⟨rfl, rfl⟩)
  go_ret
  exact ⟨congrArg (fun x : Nat => Ending.returned (Value.int .u8 x)) q.out, rfl⟩
end Go.Proofs.YtjckkdjldnobmaaGreatDoor.Gf8

namespace Go.Proofs.YtjckkdjldnobmaaGreatDoor.Gf8
open Go.RowKit

/-- a byte turned to the left. -/
def rot (a k : Nat) : Nat := (a * 2 ^ k % 256) ||| (a / 2 ^ (8 - k))
theorem rot_lt {a k : Nat} (ha : a < 256) : rot a k < 256 := Nat.or_lt_two_pow (n := 8) (Nat.mod_lt _ (by omega)) (Nat.lt_of_le_of_lt (Nat.div_le_self _ _) ha)
theorem and7 : ∀ k : Fin 8, bits .and .u64 ((k.val : Nat) : Int) 7 = ((k.val : Nat) : Int) := by decide +kernel
set_option maxRecDepth 20000 in
theorem rot_any (a k : Nat) (w : World) (ha : a < 256) (hk : k < 8) :
    Calls Tryz.prog 159 #[.int .u8 a, .int .i64 k] w fun e w' => e = .returned (.int .u8 (rot a k : Nat)) ∧ w' = w := by
  have r1 : IntKind.u64.wrap (k : Int) = (k : Int) := by simp only [IntKind.wrap, IntKind.bits, IntKind.signed]; simp; omega
  have r2 : bits .and .u64 (k : Int) 7 = (k : Int) := and7 ⟨k, hk⟩
  go_enter Tryz.func159, Tryz.ntmps159
  go_wp2
  go_ret
  refine ⟨congrArg (fun x => Ending.returned (Value.int .u8 x)) ?_, rfl⟩
  rw [show ((a : Int) * 2 ^ k % 256) = ((a * 2 ^ k % 256 : Nat) : Int) by simp, show ((a : Int) / 2 ^ (8 - k)) = ((a / 2 ^ (8 - k) : Nat) : Int) by simp,
    or_u8 (Nat.mod_lt _ (by omega)) (Nat.lt_of_le_of_lt (Nat.div_le_self _ _) ha)]
  rfl

theorem sub_turns : ∀ a : Fin 256, rot (ginv a.val) 0 ^^^ rot (ginv a.val) 1 ^^^ rot (ginv a.val) 2 ^^^ rot (ginv a.val) 3 ^^^ rot (ginv a.val) 4 ^^^ 99 = gsub a.val := by decide +kernel
/-- The sum of the first n turns. -/
def rots (a : Nat) (ks : Nat → Nat) : Nat → Nat
  | 0 => 0
  | n + 1 => rots a ks n ^^^ rot a (ks n)
theorem rots_lt {a : Nat} (ha : a < 256) (ks : Nat → Nat) (n : Nat) : rots a ks n < 256 := by
  induction n with
  | zero => exact (by decide : (0 : Nat) < 256)
  | succ n ih => exact xor_lt ih (rot_lt ha)

set_option maxRecDepth 20000 in
set_option maxHeartbeats 400000 in
theorem turns_any (a b n : Nat) (ks : Nat → Nat) (w : World) (ha : a < 256) (hn : n < 256) (hk : ∀ i, i < n → ks i < 8) (hc : ∀ i, i < n → w.cell? ⟨b, i, none⟩ = some (.int .i64 (ks i))) :
    Calls Tryz.prog 151 #[.int .u8 a, .slice (some ⟨b, 0, none⟩) n n] w fun e w' => e = .returned (.int .u8 (rots a ks n : Nat)) ∧ w' = w := by
  have HK : Hid (_) := hk
  have HC : Hid (_) := hc
  clear hk hc
  go_enter Tryz.func151, Tryz.ntmps151
  go_wp2
  go_loopw [5, 10] (fun s i W => ∃ k : Nat, k ≤ n ∧ s = .int .u8 (rots a ks k : Nat) ∧ i = .int .i64 k ∧ W = w) (fun _ i _ => n - (intOf i).toNat)
  case atStart => exact ⟨0, by omega, rfl, rfl, rfl⟩
  case round =>
    obtain ⟨k, hk, rfl, rfl, rfl⟩ := hrel
    by_cases hlt : k < n
    · have i1 : (k : Int) < n := by omega
      have i0 : (0 : Int) ≤ (k : Int) := by omega
      have c1 := HC.out k hlt
      have m1 := HK.out k hlt
      obtain ⟨r, hr⟩ : ∃ r, ks k = r := ⟨_, rfl⟩
      rw [hr] at c1 m1
      have q : Hid (bits .xor .u8 ((rots a ks k : Nat) : Int) ((rot a r : Nat) : Int) = ((rots a ks (k + 1) : Nat) : Int)) := by
        show bits .xor .u8 ((rots a ks k : Nat) : Int) ((rot a r : Nat) : Int) = ((rots a ks (k + 1) : Nat) : Int)
        rw [xor_u8 (rots_lt ha ks k) (rot_lt ha), ← hr]
        rfl
      clear hr
      go_wp2_with (go_at_call 159; refine (rot_any a r _ ha m1).mono ?_; rintro e w' ⟨rfl, rfl⟩)
      go_roundw
      case rel => exact ⟨k + 1, by omega, by rw [q.out], by go_num, trivial⟩
      case measure => simp [intOf]; omega
    · have i1 : ¬ (k : Int) < n := by omega
      have ek : k = n := by omega
      subst ek
      go_wp2
      go_ret
      exact ⟨rfl, rfl⟩

theorem alloc_cell (w : World) {A : Array Value} {t : TypeId} {i : Nat} {v : Value} (h : A[i]? = some v) : (w.alloc (.cells A t)).cell? ⟨w.heap.size, i, none⟩ = some v := by
  rw [cell_of_row _ _ _ A t (0, 0) (by show (w.heap.push _)[w.heap.size]? = _; rw [Array.getElem?_push_size])]
  exact h
def ksub : Nat → Nat := fun i => i
theorem ksub_at : ∀ i, i < 5 → ksub i < 8 ∧ (#[Value.int IntKind.i64 0, Value.int IntKind.i64 1, Value.int IntKind.i64 2, Value.int IntKind.i64 3, Value.int IntKind.i64 4] : Array Value)[i]? = some (.int .i64 (ksub i)) := by
  intro i hi
  have : i = 0 ∨ i = 1 ∨ i = 2 ∨ i = 3 ∨ i = 4 := by omega
  rcases this with rfl | rfl | rfl | rfl | rfl <;> exact ⟨by decide, rfl⟩
theorem rots_sub {a : Nat} (ha : a < 256) : rots (ginv a) ksub 5 ^^^ 99 = gsub a := by
  rw [← sub_turns ⟨a, ha⟩]
  show ((((0 ^^^ rot (ginv a) 0) ^^^ rot (ginv a) 1) ^^^ rot (ginv a) 2) ^^^ rot (ginv a) 3) ^^^ rot (ginv a) 4 ^^^ 99 = _
  rw [Nat.zero_xor]
set_option maxRecDepth 20000 in
set_option maxHeartbeats 400000 in
theorem sub_any (a : Nat) (w : World) (ha : a < 256) :
    Calls Tryz.prog 138 #[.int .u8 a] w fun e w' => e = .returned (.int .u8 (gsub a : Nat)) ∧ Below w.heap.size w w' := by
  have q : Hid (bits .xor .u8 ((rots (ginv a) ksub 5 : Nat) : Int) 99 = ((gsub a : Nat) : Int)) := by
    show bits .xor .u8 ((rots (ginv a) ksub 5 : Nat) : Int) ((99 : Nat) : Int) = ((gsub a : Nat) : Int)
    rw [xor_u8 (rots_lt (ginv_lt ha) _ _) (by omega), rots_sub ha]
  have HG : Hid (ginv a < 256) := ginv_lt ha
  go_enter Tryz.func138, Tryz.ntmps138
  go_wp2_with (first
    | (go_at_call 152; refine (inv_any a _ ha).mono ?_; rintro e w' ⟨rfl, rfl⟩)
    | (go_at_call 151; refine (turns_any (ginv a) w'.heap.size 5 ksub _ HG.out (by omega) (fun i hi => (ksub_at i hi).1) (fun i hi => alloc_cell w' (ksub_at i hi).2)).mono ?_; rintro e w'' ⟨rfl, rfl⟩))
  go_ret
  exact ⟨congrArg (fun x => Ending.returned (Value.int .u8 x)) q.out, (Below.refl _ _).alloc (Nat.le_refl _) _⟩

end Go.Proofs.YtjckkdjldnobmaaGreatDoor.Gf8

namespace Go.Proofs.YtjckkdjldnobmaaGreatDoor.Gf8
open Go.RowKit

theorem results_tmp4 {fn : Func} {t u v x : Tmp} (h : fn.results = #[.tmp t, .tmp u, .tmp v, .tmp x]) (tmps : Array Value) (P : Program) (w : World) :
    (results fn tmps).run P w = .ok (.tuple #[tmps.getD t undef, tmps.getD u undef, tmps.getD v undef, tmps.getD x undef]) w := by
  simp [results, h]
set_option maxRecDepth 20000 in
set_option maxHeartbeats 400000 in
theorem from_any (c : Nat → Nat) (i : Nat) (w : World) (hi : i < 4) :
    Calls Tryz.prog 154 #[.agg (col c), .int .i64 i] w fun e w' => e = .returned (.tuple #[.int .u8 (c i), .int .u8 (c ((i + 1) % 4)), .int .u8 (c ((i + 2) % 4)), .int .u8 (c ((i + 3) % 4))]) ∧ Below w.heap.size w w' := by
  have B : Hid (Below w.heap.size w (w.alloc (.cells (col c) 224))) := (Below.refl _ _).alloc (Nat.le_refl _) _
  obtain ⟨j1, h1⟩ : ∃ j, (i + 1) % 4 = j := ⟨_, rfl⟩
  obtain ⟨j2, h2⟩ : ∃ j, (i + 2) % 4 = j := ⟨_, rfl⟩
  obtain ⟨j3, h3⟩ : ∃ j, (i + 3) % 4 = j := ⟨_, rfl⟩
  have k1 : j1 < 4 := by omega
  have k2 : j2 < 4 := by omega
  have k3 : j3 < 4 := by omega
  have t1 : ((i : Int) + 1).tmod 4 = (j1 : Int) := by rw [Int.tmod_eq_emod_of_nonneg (by omega)]; omega
  have t2 : ((i : Int) + 2).tmod 4 = (j2 : Int) := by rw [Int.tmod_eq_emod_of_nonneg (by omega)]; omega
  have t3 : ((i : Int) + 3).tmod 4 = (j3 : Int) := by rw [Int.tmod_eq_emod_of_nonneg (by omega)]; omega
  rw [h1, h2, h3]
  clear h1 h2 h3
  have i0 : (i : Int) < 4 := by omega
  have i1 : (j1 : Int) < 4 := by omega
  have i2 : (j2 : Int) < 4 := by omega
  have i3 : (j3 : Int) < 4 := by omega
  have c0 : (w.alloc (.cells (col c) 224)).cell? ⟨w.heap.size, i, none⟩ = some (.int .u8 (c i)) := alloc_cell w (col_at c hi)
  have c1 : (w.alloc (.cells (col c) 224)).cell? ⟨w.heap.size, j1, none⟩ = some (.int .u8 (c j1)) := alloc_cell w (col_at c k1)
  have c2 : (w.alloc (.cells (col c) 224)).cell? ⟨w.heap.size, j2, none⟩ = some (.int .u8 (c j2)) := alloc_cell w (col_at c k2)
  have c3 : (w.alloc (.cells (col c) 224)).cell? ⟨w.heap.size, j3, none⟩ = some (.int .u8 (c j3)) := alloc_cell w (col_at c k3)
  go_enter Tryz.func154, Tryz.ntmps154
  go_wp2
  go_quiet (skip)
  go_wp2
  refine bodyPost_ret (results_tmp4 rfl _ _ _) rfl ⟨rfl, ?_⟩
  exact belowD B.out _

theorem small_all : ∀ x : Fin 256, gm 2 x.val = xt x.val ∧ gm 3 x.val = xt x.val ^^^ x.val ∧ gm 1 x.val = x.val := by decide +kernel
/-- The code's row of the mixing. -/
def fcol (c : Nat → Nat) (i : Nat) : Nat := xt (c i) ^^^ xt (c ((i + 1) % 4)) ^^^ c ((i + 1) % 4) ^^^ c ((i + 2) % 4) ^^^ c ((i + 3) % 4)
theorem fcol_mix {c : Nat → Nat} (hc : ∀ i, i < 4 → c i < 256) {i : Nat} (hi : i < 4) : fcol c i = mixk fwd c i := by
  have s (j : Nat) (h : j < 4) := small_all ⟨c j, hc j h⟩
  obtain ⟨a0, b0, e0⟩ := s 0 (by omega)
  obtain ⟨a1, b1, e1⟩ := s 1 (by omega)
  obtain ⟨a2, b2, e2⟩ := s 2 (by omega)
  obtain ⟨a3, b3, e3⟩ := s 3 (by omega)
  simp only at a0 b0 e0 a1 b1 e1 a2 b2 e2 a3 b3 e3
  have : i = 0 ∨ i = 1 ∨ i = 2 ∨ i = 3 := by omega
  rcases this with rfl | rfl | rfl | rfl
  · show xt (c 0) ^^^ xt (c 1) ^^^ c 1 ^^^ c 2 ^^^ c 3 = gm 2 (c 0) ^^^ gm 3 (c 1) ^^^ gm 1 (c 2) ^^^ gm 1 (c 3)
    rw [a0, b1, e2, e3]; ac_rfl
  · show xt (c 1) ^^^ xt (c 2) ^^^ c 2 ^^^ c 3 ^^^ c 0 = gm 1 (c 0) ^^^ gm 2 (c 1) ^^^ gm 3 (c 2) ^^^ gm 1 (c 3)
    rw [e0, a1, b2, e3]; ac_rfl
  · show xt (c 2) ^^^ xt (c 3) ^^^ c 3 ^^^ c 0 ^^^ c 1 = gm 1 (c 0) ^^^ gm 1 (c 1) ^^^ gm 2 (c 2) ^^^ gm 3 (c 3)
    rw [e0, e1, a2, b3]; ac_rfl
  · show xt (c 3) ^^^ xt (c 0) ^^^ c 0 ^^^ c 1 ^^^ c 2 = gm 3 (c 0) ^^^ gm 1 (c 1) ^^^ gm 1 (c 2) ^^^ gm 2 (c 3)
    rw [b0, e1, e2, a3]; ac_rfl
end Go.Proofs.YtjckkdjldnobmaaGreatDoor.Gf8

namespace Go.Proofs.YtjckkdjldnobmaaGreatDoor.Gf8
open Go.RowKit

set_option maxRecDepth 20000 in
set_option maxHeartbeats 400000 in
theorem column_any (c : Nat → Nat) (w : World) (hc : ∀ i, i < 4 → c i < 256) :
    Calls Tryz.prog 146 #[.agg (col c)] w fun e w' => e = .returned (.agg (col (mixk fwd c))) ∧ Below w.heap.size w w' := by
  have HC : Hid (_) := hc
  clear hc
  have h3 := heap3c w (.cells (col c) 224) (.cells (col fun _ => 0) 224) (.cells (col fun _ => 0) 224)
  have H3 : Hid (_) := h3
  clear h3
  go_enter Tryz.func146, Tryz.ntmps146
  go_wp2
  rw [show w.heap.size + 1 + 1 = w.heap.size + 2 from rfl]
  go_loopw [9] (fun i W => ∃ k : Nat, k ≤ 4 ∧ i = .int .i64 k ∧ W.heap[w.heap.size]? = some (.cells (col c) 224) ∧ W.heap[w.heap.size + 1]? = some (.cells (col fun _ => 0) 224) ∧ W.heap[w.heap.size + 2]? = some (.cells (col (uptoC (mixk fwd c) k)) 224) ∧ Below w.heap.size w W) (fun i _ => 4 - (intOf i).toNat)
  case atStart => exact ⟨0, by omega, rfl, H3.out.1, H3.out.2.1, H3.out.2.2, below3c _ _ _ _⟩
  case round =>
    obtain ⟨k, hk, rfl, g1, g2, g3, bel⟩ := hrel
    have B : Hid (Below w.heap.size w wr) := bel
    have G1 : Hid (_) := g1
    have G2 : Hid (_) := g2
    have G3 : Hid (_) := g3
    clear bel g1 g2 g3 H3
    by_cases hlt : k < 4
    · have i1 : (k : Int) < 4 := by omega
      have i0 : (0 : Int) ≤ (k : Int) := by omega
      have HL : Hid (k < 4) := hlt
      obtain ⟨p, hp⟩ : ∃ p, c k = p := ⟨_, rfl⟩
      obtain ⟨q, hq⟩ : ∃ q, c ((k + 1) % 4) = q := ⟨_, rfl⟩
      obtain ⟨r, hr⟩ : ∃ r, c ((k + 2) % 4) = r := ⟨_, rfl⟩
      obtain ⟨s, hs⟩ : ∃ s, c ((k + 3) % 4) = s := ⟨_, rfl⟩
      have p1 : p < 256 := by rw [← hp]; exact HC.out _ hlt
      have q1 : q < 256 := by rw [← hq]; exact HC.out _ (Nat.mod_lt _ (by omega))
      have r1 : r < 256 := by rw [← hr]; exact HC.out _ (Nat.mod_lt _ (by omega))
      have s1 : s < 256 := by rw [← hs]; exact HC.out _ (Nat.mod_lt _ (by omega))
      have FR := from_any c k wr hlt
      rw [hp, hq, hr, hs] at FR
      have x1 := xor_u8 (xt_lt p1) (xt_lt q1)
      have x2 := xor_u8 (xor_lt (xt_lt p1) (xt_lt q1)) q1
      have x3 := xor_u8 (xor_lt (xor_lt (xt_lt p1) (xt_lt q1)) q1) r1
      have x4 := xor_u8 (xor_lt (xor_lt (xor_lt (xt_lt p1) (xt_lt q1)) q1) r1) s1
      have E : Hid (xt p ^^^ xt q ^^^ q ^^^ r ^^^ s = mixk fwd c k) := by
        show xt p ^^^ xt q ^^^ q ^^^ r ^^^ s = mixk fwd c k
        rw [← fcol_mix HC.out hlt, ← hp, ← hq, ← hr, ← hs]
        rfl
      clear hlt hp hq hr hs
      go_wp2_with (first
        | (refine atLoad 224 (.tmp 1) rfl ?_; go_must (refine wpList_load_row rfl 224 (.tmp 1) rfl w.heap.size rfl 224 _ (0, 0) _ G1.out Tryz.underlying224 rfl (size4' _) ?_; simp only [Act.put, List.setIfInBounds_toArray, List.set_cons_succ, List.set_cons_zero])))
      refine FR.mono ?_
      rintro e w1 ⟨rfl, hb1⟩
      have hsz : w.heap.size + 2 < wr.heap.size := (Array.getElem?_eq_some_iff.1 G3.out).1
      have D1 : Hid (w1.heap[w.heap.size]? = some (.cells (col c) 224)) := by show w1.heap[w.heap.size]? = _; rw [hb1.block _ (by omega)]; exact G1.out
      have D2 : Hid (w1.heap[w.heap.size + 1]? = some (.cells (col fun _ => 0) 224)) := by show w1.heap[w.heap.size + 1]? = _; rw [hb1.block _ (by omega)]; exact G2.out
      have D3 : Hid (w1.heap[w.heap.size + 2]? = some (.cells (col (uptoC (mixk fwd c) k)) 224)) := by show w1.heap[w.heap.size + 2]? = _; rw [hb1.block _ (by omega)]; exact G3.out
      have D4 : Hid (Below w.heap.size w w1) := B.out.trans (hb1.mono (by omega))
      have n1 : w1.cell? ⟨w.heap.size + 2, k, none⟩ = some (.int .u8 (uptoC (mixk fwd c) k k)) := by rw [cell_of_row _ _ _ _ _ _ D3.out]; exact col_at _ HL.out
      have n2 : w1.frozen? ⟨w.heap.size + 2, k, none⟩ = false := frozen4 D3.out
      clear hb1 hsz FR
      go_wp2_with (go_at_call 153; refine (double_any _ _ (by assumption)).mono ?_; rintro e w2 ⟨rfl, rfl⟩)
      go_roundw
      case rel =>
        refine ⟨k + 1, by have := HL.out; omega, by go_num, ?_, ?_, ?_, D4.out.setCell (by simp) _⟩
        · rw [heap4o _ D3.out (by omega)]; exact D1.out
        · rw [heap4o _ D3.out (by omega)]; exact D2.out
        · rw [heap4 _ D3.out, E.out, col_set _ HL.out]
      case measure => have := HL.out; simp [intOf]; omega
    · have i1 : ¬ (k : Int) < 4 := by omega
      have ek : k = 4 := by omega
      subst ek
      go_wp2_with (first
        | (refine atLoad 224 (.tmp 3) rfl ?_; go_must (refine wpList_load_row rfl 224 (.tmp 3) rfl (w.heap.size + 2) rfl 224 _ (0, 0) _ G3.out Tryz.underlying224 rfl (size4' _) ?_; simp only [Act.put, List.setIfInBounds_toArray, List.set_cons_succ, List.set_cons_zero]))
        | (refine atStore 224 (.tmp 2) (.tmp 34) rfl ?_; go_must (refine wpList_store_row rfl 224 (.tmp 2) (.tmp 34) rfl (w.heap.size + 1) _ rfl rfl 224 _ G2.out (size4' _) rfl (col_one _) ?_)))
      refine bodyPost_ret (v := .agg (col (mixk fwd c))) (results_cell_row Tryz.results146 _ _ (w.heap.size + 1) 224 _ (0, 0) _ rfl (setRow_heap _ _ _ _ _ _ G2.out) Tryz.underlying224 rfl (size4' _)) rfl ⟨rfl, ?_⟩
      exact below4 B.out (by omega) _
end Go.Proofs.YtjckkdjldnobmaaGreatDoor.Gf8

namespace Go.Proofs.YtjckkdjldnobmaaGreatDoor.Gf8
open Go.RowKit

theorem zero4 : ∀ w, (zeroValue 224).run Tryz.prog w = .ok (.agg (col fun _ => 0)) w :=
  (zero_of_info (n := 4) (by kernel_rfl)).1
section
variable {o : Oper} {a : Act} {w : World}
theorem execIdx4 {x i : Operand} {g k : Nat} (ho : o.op = .indexAddr 224 x i) (hx : a.eval x = .pointer (some ⟨g, 0, none⟩)) (hi : a.eval i = .int .i64 (k : Int)) (hk : k < 4) : (execOp a.eval o).run Tryz.prog w = .ok (.value (.pointer (some ⟨g, k, none⟩))) w := by
  have h1 : (k : Int) < 4 := by omega
  unfold execOp
  simp only [ho, hx, hi]
  simp [go_sem, h1]
theorem execAlloc4 (ho : o.op = .alloc 224) : (execOp a.eval o).run Tryz.prog w = .ok (.value (.pointer (some ⟨w.heap.size, 0, none⟩))) (w.alloc (.cells (col fun _ => 0) 224)) := by
  have h := zero4
  unfold execOp
  simp only [ho]
  simp [go_sem, h]
end
end Go.Proofs.YtjckkdjldnobmaaGreatDoor.Gf8

namespace Go.Proofs.YtjckkdjldnobmaaGreatDoor.Aes
open Go.RowKit Gf8
/- The program's block: nextKey. -/

/-- The word that is carried on, behind i words of the next round key. -/
def wd (f : Nat → Nat) (c : Nat) (key : Nat → Nat) : Nat → (Nat → Nat)
  | 0 => fun r => if r = 0 then f (key 13) ^^^ c else f (key (12 + (r + 1) % 4))
  | i + 1 => fun r => wd f c key i r ^^^ key (4 * i + r)
/-- The next round key. -/
def nk (f : Nat → Nat) (c : Nat) (key : Nat → Nat) : Nat → Nat := fun j => wd f c key (j / 4 + 1) (j % 4)
theorem wd_lt {f : Nat → Nat} {c : Nat} {key : Nat → Nat} (hf : ∀ a, a < 256 → f a < 256) (hc : c < 256) (hk : By key) : ∀ i, i ≤ 4 → ∀ r, r < 4 → wd f c key i r < 256
  | 0, _, r, hr => by
    show (if r = 0 then f (key 13) ^^^ c else f (key (12 + (r + 1) % 4))) < 256
    split
    · exact xor_lt (hf _ (hk _ (by omega))) hc
    · exact hf _ (hk _ (by omega))
  | i + 1, h, r, hr => xor_lt (wd_lt hf hc hk i (by omega) r hr) (hk _ (by omega))
/-- The round keys one behind the other. -/
theorem kw_nk (key : Nat → Nat) (n j : Nat) (hj : j < 16) : nk gsub (rcon n) (fun i => kw key (16 * n + i)) j = kw key (16 * (n + 1) + j) := by
  induction j using Nat.strongRecOn with
  | ind j ih =>
    by_cases h4 : j < 4
    · rw [kw_turn key (by omega) (by omega)]
      show wd gsub (rcon n) (fun i => kw key (16 * n + i)) (j / 4 + 1) (j % 4) = _
      rw [show j / 4 = 0 by omega, show j % 4 = j by omega]
      show (if j = 0 then gsub (kw key (16 * n + 13)) ^^^ rcon n else gsub (kw key (16 * n + (12 + (j + 1) % 4)))) ^^^ kw key (16 * n + (4 * 0 + j)) = _
      rw [Nat.xor_comm, show 16 * (n + 1) + j - 16 = 16 * n + (4 * 0 + j) by omega, show (16 * (n + 1) + j) / 4 * 4 - 4 + (16 * (n + 1) + j + 1) % 4 = 16 * n + (12 + (j + 1) % 4) by omega]
      congr 1
      by_cases h0 : j = 0
      · subst h0
        rw [if_pos rfl, if_pos (by omega), show (16 * (n + 1) + 0) / 16 - 1 = n by omega]
      · rw [if_neg h0, if_neg (by omega), Nat.xor_zero]
    · rw [kw_plain key (by omega) (by omega), show 16 * (n + 1) + j - 4 = 16 * (n + 1) + (j - 4) by omega, ← ih (j - 4) (by omega) (by omega)]
      show wd gsub (rcon n) (fun i => kw key (16 * n + i)) (j / 4 + 1) (j % 4) = _ ^^^ wd gsub (rcon n) (fun i => kw key (16 * n + i)) ((j - 4) / 4 + 1) ((j - 4) % 4)
      rw [show (j - 4) / 4 + 1 = j / 4 by omega, show (j - 4) % 4 = j % 4 by omega]
      show wd gsub (rcon n) (fun i => kw key (16 * n + i)) (j / 4) (j % 4) ^^^ kw key (16 * n + (4 * (j / 4) + j % 4)) = _
      rw [Nat.xor_comm, show 16 * n + (4 * (j / 4) + j % 4) = 16 * (n + 1) + j - 16 by omega]
section
variable {P : Program} {o : Oper} {a : Act} {w : World}
theorem execCallF {x y : Operand} {ts : Array TypeId} {g : Nat} {lb : Array Value} {v : Value} (ho : o.op = .call { callee := .value x, args := #[y], argTypes := ts }) (hx : a.eval x = .func (.func g) #[] lb) (hy : a.eval y = v) (eg : Enters P g) : (execOp a.eval o).run P w = .ok (.enter g (#[v] ++ lb)) w := by
  have e := eg
  unfold Enters at e
  unfold execOp
  simp only [ho, resolve, Deferred.ofValue, invoke, Sem.run_bind, Sem.run_pure, Result.andThen_ok, List.map_toArray, List.map_cons, List.map_nil, hx, hy]
  have e2 := e (#[v] ++ lb) w
  simpa using e2
theorem exec_build4v {x0 x1 x2 x3 : Operand} {c : Nat → Nat} (ho : o.op = .build 224 #[(0, x0), (1, x1), (2, x2), (3, x3)]) (h0 : a.eval x0 = .int .u8 (c 0)) (h1 : a.eval x1 = .int .u8 (c 1)) (h2 : a.eval x2 = .int .u8 (c 2)) (h3 : a.eval x3 = .int .u8 (c 3)) :
    (execOp a.eval o).run Tryz.prog w = .ok (.value (.agg (col c))) w := by
  have z := zero4
  have s5 : ∀ W, (sizeOf 5).run Tryz.prog W = .ok 1 W := by intro W; simp [go_sem]
  unfold execOp
  simp only [ho, List.map_toArray, List.map_cons, List.map_nil, h0, h1, h2, h3]
  simp [go_sem, col]
end
/-- What each operation of word's literal yields. -/
def wdS (A g : Nat) (lb : Array Value) (f : Nat → Nat) (c : Nat) (key : Nat → Nat) (j : Nat) (r : Value) (W : World) : Prop :=
  match j with
  | 0 => r = .func (.func g) #[] lb | 1 => r = .pointer (some ⟨A, 13, none⟩) | 2 => r = .int .u8 (key 13) | 3 => r = .int .u8 (f (key 13) : Nat) | 4 => r = .int .u8 c | 5 => r = .int .u8 (wd f c key 0 0 : Nat)
  | 6 => r = .func (.func g) #[] lb | 7 => r = .pointer (some ⟨A, 14, none⟩) | 8 => r = .int .u8 (key 14) | 9 => r = .int .u8 (wd f c key 0 1 : Nat)
  | 10 => r = .func (.func g) #[] lb | 11 => r = .pointer (some ⟨A, 15, none⟩) | 12 => r = .int .u8 (key 15) | 13 => r = .int .u8 (wd f c key 0 2 : Nat)
  | 14 => r = .func (.func g) #[] lb | 15 => r = .pointer (some ⟨A, 12, none⟩) | 16 => r = .int .u8 (key 12) | 17 => r = .int .u8 (wd f c key 0 3 : Nat)
  | 18 => r = .agg (col (wd f c key 0))
  | _ => ∃ T, r = .pointer (some ⟨T, 0, none⟩) ∧ A + 1 < T ∧ W.heap[T]? = some (.cells (col fun _ => 0) 224)
theorem wdS_on {A g : Nat} {lb : Array Value} {f : Nat → Nat} {c : Nat} {key : Nat → Nat} {j : Nat} {r : Value} {W W' : World} (h : wdS A g lb f c key j r W) (hb : Below W.heap.size W W') : wdS A g lb f c key j r W' := by
  match j, h with
  | 0, h => exact h
  | 1, h => exact h
  | 2, h => exact h
  | 3, h => exact h
  | 4, h => exact h
  | 5, h => exact h
  | 6, h => exact h
  | 7, h => exact h
  | 8, h => exact h
  | 9, h => exact h
  | 10, h => exact h
  | 11, h => exact h
  | 12, h => exact h
  | 13, h => exact h
  | 14, h => exact h
  | 15, h => exact h
  | 16, h => exact h
  | 17, h => exact h
  | 18, h => exact h
  | n + 19, h =>
    obtain ⟨T, e, lT, gT⟩ := h
    exact ⟨T, e, lT, by rw [hb.block _ (Array.getElem?_eq_some_iff.1 gT).1]; exact gT⟩
/-- The rows of nextKey: the key, of which n bytes are new; the answer's place; the word. -/
structure NkT (A T n : Nat) (m : Nat → Nat) (f : Nat → Nat) (c : Nat) (key : Nat → Nat) (V W : World) : Prop where
  s : W.heap[A]? = some (.cells (bA 16 (mixU (nk f c key) key n)) 34)
  r : W.heap[A + 1]? = some (.cells (bA 16 fun _ => 0) 34)
  t : W.heap[T]? = some (.cells (col m) 224)
  bel : Below A V W
/-- What each operation of 'word[j] ^= key[4*i+j]' yields. -/
def nxV (A T i j : Nat) (m key : Nat → Nat) (q : Nat) : Value :=
  match q with
  | 0 => .int .i64 j | 1 => .pointer (some ⟨T, j, none⟩) | 2 => .int .u8 (m j) | 3 => .int .i64 i | 4 => .int .i64 (4 * i : Nat) | 5 => .int .i64 j | 6 => .int .i64 (4 * i + j : Nat)
  | 7 => .pointer (some ⟨A, 4 * i + j, none⟩) | 8 => .int .u8 (key (4 * i + j)) | 9 => .int .u8 (m j ^^^ key (4 * i + j) : Nat) | 10 => .pointer (some ⟨T, j, none⟩) | _ => undef
theorem col_setN (m : Nat → Nat) {k v : Nat} (h : k < 4) : (col m).setIfInBounds k (.int .u8 v) = col (updN m k v) := by
  have : k = 0 ∨ k = 1 ∨ k = 2 ∨ k = 3 := by omega
  rcases this with rfl | rfl | rfl | rfl <;> rfl
theorem cell4 {W : World} {b k : Nat} {c : Nat → Nat} {t : TypeId} (h : W.heap[b]? = some (.cells (col c) t)) (hk : k < 4) : W.cell? ⟨b, k, none⟩ = some (.int .u8 (c k)) := by
  rw [cell_of_row _ _ _ _ _ _ h]; exact col_at c hk
/-- What each operation of copy(key[4*i:], word[:]) yields. -/
def ckV (A T i : Nat) (j : Nat) : Value :=
  match j with
  | 0 => .int .i64 i | 1 => .int .i64 (4 * i : Nat) | 2 => .slice (some ⟨A, 4 * i, none⟩) (16 - 4 * i) (16 - 4 * i) | 3 => .slice (some ⟨T, 0, none⟩) 4 4 | 4 => .int .i64 4 | _ => undef
theorem spl_nk (f : Nat → Nat) (c : Nat) (key : Nat → Nat) (i : Nat) : spl (mixU (nk f c key) key (4 * i)) (4 * i) 4 (wd f c key (i + 1)) = mixU (nk f c key) key (4 * (i + 1)) := by
  funext j
  unfold spl mixU
  by_cases h1 : 4 * i ≤ j ∧ j < 4 * i + 4
  · rw [if_pos h1, if_pos (by omega)]
    unfold nk
    rw [show j / 4 + 1 = i + 1 by omega, show j - 4 * i = j % 4 by omega]
  · rw [if_neg h1]
    by_cases h2 : j < 4 * i
    · rw [if_pos h2, if_pos (by omega)]
    · rw [if_neg h2, if_neg (by omega)]

set_option maxRecDepth 20000 in
set_option maxHeartbeats 2000000 in
theorem nextKey_any (g : Nat) (lb : Array Value) (f : Nat → Nat) (c : Nat) (key : Nat → Nat) (V : World) (hF : FnB g lb f V) (hc : c < 256) (hk : By key) :
    Calls Tryz.prog 140 #[.agg (bA 16 key), .int .u8 c, .func (.func g) #[] lb] V fun e w' => e = .returned (.agg (bA 16 (nk f c key))) ∧ Below V.heap.size V w' := by
  have HK : Hid (By key) := hk
  have HF : Hid (FnB g lb f V) := hF
  have HC : Hid (c < 256) := hc
  have HD : Hid (∀ i, i ≤ 4 → ∀ r, r < 4 → wd f c key i r < 256) := wd_lt hF.lt hc hk
  clear hk hF hc
  have z := zero16
  go_enter Tryz.func140, Tryz.ntmps140
  go_wp2_with fail
  have h2 := heap2c V (.cells (bA 16 key) 34) (.cells (bA 16 fun _ => 0) 34)
  have b2 := below2c V (.cells (bA 16 key) 34) (.cells (bA 16 fun _ => 0) 34)
  obtain ⟨W0, hW⟩ : ∃ W0, W0 = (V.alloc (.cells (bA 16 key) 34)).alloc (.cells (bA 16 fun _ => 0) 34) := ⟨_, rfl⟩
  rw [← hW] at h2 b2 ⊢
  obtain ⟨A, hA⟩ : ∃ A, A = V.heap.size := ⟨_, rfl⟩
  rw [← hA] at h2 b2 ⊢
  have VA : Hid (V.heap.size = A) := hA.symm
  have H2 : Hid (_) := h2
  have B2 : Hid (_) := b2
  clear z h2 b2 hA hW
  have l2 : A + 1 < W0.heap.size := (Array.getElem?_eq_some_iff.1 H2.out.2).1
  refine wp_region_slotsA 20 54 [10, 11, 12, 13, 14, 15, 16, 17, 18, 19, 20, 21, 22, 23, 24, 25, 26, 27, 28, 7] (wdS A g lb f c key) (by kernel_rfl) (by kernel_rfl) (by kernel_rfl) (by decide) rfl rfl (by decide) (by decide) (fun _ _ _ _ h hb => wdS_on h hb) ?_ ?_
  · intro j hj a W hB hf hdep
    have gA : W.heap[A]? = some (.cells (bA 16 key) 34) := by rw [hB.block _ (by omega)]; exact H2.out.1
    have bV : Below V.heap.size V W := by rw [VA.out]; exact B2.out.trans (hB.mono (by omega))
    have k := HK.out
    match j, hj with
    | 0, _ => exact stepV rfl rfl (execMvB rfl (hf 2 (by decide))) ⟨_, rfl, rfl, Below.refl _ _⟩
    | 1, _ => exact stepV rfl rfl (execIdx16 (k := 13) rfl (hf 3 (by decide)) rfl (by omega)) ⟨_, rfl, rfl, Below.refl _ _⟩
    | 2, _ => exact stepV rfl rfl (execLdB rfl (hdep _ rfl 1 rfl) (cellN gA (by omega))) ⟨_, rfl, rfl, Below.refl _ _⟩
    | 3, _ => exact stepC rfl rfl (execCallF rfl (hdep _ rfl 0 rfl) (hdep _ rfl 2 rfl) HF.out.enters) (HF.out.gives (key 13) W (k 13 (by omega)) bV) fun e w' h => ⟨_, h.1, _, rfl, rfl, h.2⟩
    | 4, _ => exact stepV rfl rfl (execMvB rfl (hf 1 (by decide))) ⟨_, rfl, rfl, Below.refl _ _⟩
    | 5, _ => exact stepV rfl rfl (execXor5 rfl (hdep _ rfl 3 rfl) (hdep _ rfl 4 rfl) (HF.out.lt _ (k 13 (by omega))) HC.out) ⟨_, rfl, rfl, Below.refl _ _⟩
    | 6, _ => exact stepV rfl rfl (execMvB rfl (hf 2 (by decide))) ⟨_, rfl, rfl, Below.refl _ _⟩
    | 7, _ => exact stepV rfl rfl (execIdx16 (k := 14) rfl (hf 3 (by decide)) rfl (by omega)) ⟨_, rfl, rfl, Below.refl _ _⟩
    | 8, _ => exact stepV rfl rfl (execLdB rfl (hdep _ rfl 7 rfl) (cellN gA (by omega))) ⟨_, rfl, rfl, Below.refl _ _⟩
    | 9, _ => exact stepC rfl rfl (execCallF rfl (hdep _ rfl 6 rfl) (hdep _ rfl 8 rfl) HF.out.enters) (HF.out.gives (key 14) W (k 14 (by omega)) bV) fun e w' h => ⟨_, h.1, _, rfl, rfl, h.2⟩
    | 10, _ => exact stepV rfl rfl (execMvB rfl (hf 2 (by decide))) ⟨_, rfl, rfl, Below.refl _ _⟩
    | 11, _ => exact stepV rfl rfl (execIdx16 (k := 15) rfl (hf 3 (by decide)) rfl (by omega)) ⟨_, rfl, rfl, Below.refl _ _⟩
    | 12, _ => exact stepV rfl rfl (execLdB rfl (hdep _ rfl 11 rfl) (cellN gA (by omega))) ⟨_, rfl, rfl, Below.refl _ _⟩
    | 13, _ => exact stepC rfl rfl (execCallF rfl (hdep _ rfl 10 rfl) (hdep _ rfl 12 rfl) HF.out.enters) (HF.out.gives (key 15) W (k 15 (by omega)) bV) fun e w' h => ⟨_, h.1, _, rfl, rfl, h.2⟩
    | 14, _ => exact stepV rfl rfl (execMvB rfl (hf 2 (by decide))) ⟨_, rfl, rfl, Below.refl _ _⟩
    | 15, _ => exact stepV rfl rfl (execIdx16 (k := 12) rfl (hf 3 (by decide)) rfl (by omega)) ⟨_, rfl, rfl, Below.refl _ _⟩
    | 16, _ => exact stepV rfl rfl (execLdB rfl (hdep _ rfl 15 rfl) (cellN gA (by omega))) ⟨_, rfl, rfl, Below.refl _ _⟩
    | 17, _ => exact stepC rfl rfl (execCallF rfl (hdep _ rfl 14 rfl) (hdep _ rfl 16 rfl) HF.out.enters) (HF.out.gives (key 12) W (k 12 (by omega)) bV) fun e w' h => ⟨_, h.1, _, rfl, rfl, h.2⟩
    | 18, _ => exact stepV rfl rfl (exec_build4v (c := wd f c key 0) rfl (hdep _ rfl 5 rfl) (hdep _ rfl 9 rfl) (hdep _ rfl 13 rfl) (hdep _ rfl 17 rfl)) ⟨_, rfl, rfl, Below.refl _ _⟩
    | 19, _ => exact stepV rfl rfl (execAlloc4 rfl) ⟨_, rfl, ⟨_, rfl, by have := hB.size; omega, heapNew W _⟩, belNew W _⟩
    | n + 20, h => exact absurd h (by omega)
  · intro x W hB hS
    have x18 : x 18 = .agg (col (wd f c key 0)) := hS 18 (by omega)
    obtain ⟨T, x19, lT, gT⟩ := hS 19 (by omega)
    have gA : W.heap[A]? = some (.cells (bA 16 key) 34) := by rw [hB.block _ (by omega)]; exact H2.out.1
    have gR : W.heap[A + 1]? = some (.cells (bA 16 fun _ => 0) 34) := by rw [hB.block _ l2]; exact H2.out.2
    have bV : Below A V W := B2.out.trans (hB.mono (by omega))
    simp only [putL, Act.put, List.setIfInBounds_toArray, List.set_cons_succ, List.set_cons_zero, x18, x19]
    refine wpList_store_row rfl 224 (.tmp 7) (.tmp 28) rfl T _ rfl rfl 224 _ gT (size4' _) rfl (col_one _) ?_
    have KT : Hid (NkT A T 0 (wd f c key 0) f c key V (W.setRow T (col (wd f c key 0)))) :=
      ⟨by rw [setRow_other _ _ _ _ (by omega)]; exact gA, by rw [setRow_other _ _ _ _ (by omega)]; exact gR, setRow_heap _ _ _ _ _ _ gT, below4 bV (by omega) _⟩
    have LT : Hid (A + 1 < T) := lT
    clear hS x18 x19 gT gA gR bV hB H2 B2 l2 lT
    generalize x 0 = y0, x 1 = y1, x 2 = y2, x 3 = y3, x 4 = y4, x 5 = y5, x 6 = y6, x 7 = y7, x 8 = y8, x 9 = y9, x 10 = y10, x 11 = y11, x 12 = y12, x 13 = y13, x 14 = y14, x 15 = y15, x 16 = y16, x 17 = y17
    go_wp2_with fail
    go_loopw [29] (fun x W => ∃ i : Nat, i ≤ 4 ∧ x = .int .i64 i ∧ NkT A T (4 * i) (wd f c key i) f c key V W) (fun x _ => 4 - (intOf x).toNat)
    case atStart => exact ⟨0, by omega, rfl, KT.out⟩
    case round =>
      obtain ⟨i, hi, rfl, kt⟩ := hrel
      clear KT
      by_cases hlt : i < 4
      · have i1 : (i : Int) < 4 := by omega
        have HI : Hid (i < 4) := hlt
        have KT : Hid (_) := kt
        clear kt hlt hi
        go_wp2_with fail
        go_loopw [32] (fun x W => ∃ j : Nat, j ≤ 4 ∧ x = .int .i64 j ∧ NkT A T (4 * i) (mixU (wd f c key (i + 1)) (wd f c key i) j) f c key V W) (fun x _ => 4 - (intOf x).toNat)
        case atStart => exact ⟨0, by omega, rfl, KT.out⟩
        case round =>
          obtain ⟨j, hj, rfl, kt⟩ := hrel
          clear KT
          by_cases hjl : j < 4
          · have j1 : (j : Int) < 4 := by omega
            have HJ : Hid (j < 4) := hjl
            have KT : Hid (_) := kt
            clear kt hjl hj
            go_wp2_with fail
            refine wp_region_det 54 [(0, 35), (1, 36), (2, 37), (3, 38), (4, 39), (5, 40), (6, 41), (7, 42), (8, 43), (9, 44), (10, 45)] (nxV A T i j (wd f c key i) key) (fun l W => NkT A T (4 * i) (mixU (wd f c key (i + 1)) (wd f c key i) (if l 11 = true then j + 1 else j)) f c key V W) (by kernel_rfl) (by kernel_rfl) rfl (by kernel_rfl) (by decide) (by decide) ?_ ?_ ?_
            · exact ⟨KT.out.s, KT.out.r, KT.out.t, KT.out.bel.drew⟩
            · intro q hq l a W hl hf hdep hl2 hcl _ hT
              have lj := HJ.out
              have li := HI.out
              match q, hq with
              | 0, _ => exact stepV rfl rfl (execMvB rfl (hf 9 (by decide))) ⟨⟨_, rfl, rfl⟩, hT⟩
              | 1, _ => exact stepV rfl rfl (execIdx4 rfl (hf 7 (by decide)) (hdep _ rfl 0 rfl _ rfl _ rfl) lj) ⟨⟨_, rfl, rfl⟩, hT⟩
              | 2, _ =>
                have n11 : l 11 = false := by
                  cases h : l 11 with
                  | false => rfl
                  | true =>
                    have := hcl 9 _ rfl (hcl 11 _ rfl h 9 rfl) 2 rfl
                    rw [hl] at this
                    cases this
                have ge := hT.t
                rw [n11, if_neg (by decide)] at ge
                refine stepV rfl rfl (execLdB rfl (hdep _ rfl 1 rfl _ rfl _ rfl) (cell4 ge lj)) ⟨⟨_, rfl, congrArg (fun z : Nat => Act.put a _ (.int .u8 z)) ?_⟩, hT⟩
                unfold mixU; rw [if_neg (by omega)]
              | 3, _ => exact stepV rfl rfl (execMvB rfl (hf 8 (by decide))) ⟨⟨_, rfl, rfl⟩, hT⟩
              | 4, _ => exact stepV rfl rfl (execMulI (p := 4) rfl rfl (hdep _ rfl 3 rfl _ rfl _ rfl) (by omega)) ⟨⟨_, rfl, rfl⟩, hT⟩
              | 5, _ => exact stepV rfl rfl (execMvB rfl (hf 9 (by decide))) ⟨⟨_, rfl, rfl⟩, hT⟩
              | 6, _ => exact stepV rfl rfl (execAddI rfl (hdep _ rfl 4 rfl _ rfl _ rfl) (hdep _ rfl 5 rfl _ rfl _ rfl) (by omega)) ⟨⟨_, rfl, rfl⟩, hT⟩
              | 7, _ => exact stepV rfl rfl (execIdx16 rfl (hf 3 (by decide)) (hdep _ rfl 6 rfl _ rfl _ rfl) (by omega)) ⟨⟨_, rfl, rfl⟩, hT⟩
              | 8, _ =>
                refine stepV rfl rfl (execLdB rfl (hdep _ rfl 7 rfl _ rfl _ rfl) (cellN hT.s (by omega))) ⟨⟨_, rfl, congrArg (fun z : Nat => Act.put a _ (.int .u8 z)) ?_⟩, hT⟩
                unfold mixU; rw [if_neg (by omega)]
              | 9, _ => exact stepV rfl rfl (execXor5 rfl (hdep _ rfl 2 rfl _ rfl _ rfl) (hdep _ rfl 8 rfl _ rfl _ rfl) (HD.out i (by omega) j lj) (HK.out _ (by omega))) ⟨⟨_, rfl, rfl⟩, hT⟩
              | 10, _ => exact stepV rfl rfl (execIdx4 rfl (hf 7 (by decide)) (hdep _ rfl 0 rfl _ rfl _ rfl) lj) ⟨⟨_, rfl, rfl⟩, hT⟩
              | 11, _ =>
                have ge := hT.t
                rw [hl, if_neg (by decide)] at ge
                have lT := LT.out
                refine stepS rfl rfl (execStB rfl (hdep _ rfl 10 rfl _ rfl _ rfl) (hdep _ rfl 9 rfl _ rfl _ rfl) (cell4 ge lj) (frozen4 ge)) ⟨⟨_, rfl, rfl⟩, ⟨?_, ?_, ?_, hT.bel.setCell (by simp; omega) _⟩⟩
                · rw [heap4o _ ge (by omega)]; exact hT.s
                · rw [heap4o _ ge (by omega)]; exact hT.r
                · rw [heap4 _ ge]; exact congrArg (fun z => some (Obj.cells z 224)) ((col_setN _ lj).trans (congrArg col (updN_mixU (wd f c key (i + 1)) (wd f c key i) j)))
              | n + 12, h => exact absurd h (by simp)
            · intro l W hall hT
              simp only [hall 11 (by simp), if_true] at hT
              have KT2 : Hid (_) := hT
              clear hall hT KT
              simp only [putP, nxV, Act.put, List.setIfInBounds_toArray, List.set_cons_succ, List.set_cons_zero]
              go_wp2
              go_roundw
              case rel => exact ⟨j + 1, by have := HJ.out; omega, by go_num, KT2.out⟩
              case measure => have := HJ.out; simp [intOf]; omega
          · have j1 : ¬ (j : Int) < 4 := by omega
            have ej : j = 4 := by omega
            subst ej
            have KT : Hid (NkT A T (4 * i) (wd f c key (i + 1)) f c key V wr) := by
              refine ⟨kt.s, kt.r, ?_, kt.bel⟩
              have h := kt.t
              have e : col (mixU (wd f c key (i + 1)) (wd f c key i) 4) = col (wd f c key (i + 1)) := rfl
              rw [e] at h
              exact h
            clear kt hjl hj
            go_wp2_with fail
            refine wp_region_det 54 [(0, 47), (1, 48), (2, 49), (3, 50), (4, 51)] (ckV A T i) (fun l W => NkT A T (if l 4 = true then 4 * (i + 1) else 4 * i) (wd f c key (i + 1)) f c key V W) (by kernel_rfl) (by kernel_rfl) rfl (by kernel_rfl) (by decide) (by decide) ?_ ?_ ?_
            · exact ⟨KT.out.s, KT.out.r, KT.out.t, KT.out.bel.drew⟩
            · intro q hq l a W hl hf hdep hl2 hcl _ hT
              have li := HI.out
              match q, hq with
              | 0, _ => exact stepV rfl rfl (execMvB rfl (hf 8 (by decide))) ⟨⟨_, rfl, rfl⟩, hT⟩
              | 1, _ => exact stepV rfl rfl (execMulI (p := 4) rfl rfl (hdep _ rfl 0 rfl _ rfl _ rfl) (by omega)) ⟨⟨_, rfl, rfl⟩, hT⟩
              | 2, _ => exact stepV rfl rfl (execCutL rfl (hf 3 (by decide)) (hdep _ rfl 1 rfl _ rfl _ rfl) (sliceArrL A (4 * i) (by omega) _)) ⟨⟨_, rfl, rfl⟩, hT⟩
              | 3, _ => exact stepV rfl rfl (execSlice rfl (hf 7 (by decide)) (sliceArr4 T _)) ⟨⟨_, rfl, rfl⟩, hT⟩
              | 4, _ =>
                have hs := hT.s
                rw [hl, if_neg (by decide)] at hs
                have hmin : Nat.min 4 (16 - 4 * i) = 4 := by show min 4 (16 - 4 * i) = 4; omega
                have lT := LT.out
                refine stepV rfl rfl (execCopyB (cs := bytesL 4 (wd f c key (i + 1))) rfl (hdep _ rfl 2 rfl _ rfl _ rfl) (hdep _ rfl 3 rfl _ rfl _ rfl) hs (by rw [bytesL_len, hmin]) ?_ (by rw [bytesL_len, bA_size]; omega) ?_) ⟨⟨_, rfl, rfl⟩, ⟨?_, ?_, ?_, below4 hT.bel (Nat.le_refl _) _⟩⟩
                · intro j v hj
                  have hj4 : j < 4 := by have := (List.getElem?_eq_some_iff.1 hj).1; rwa [bytesL_len] at this
                  rw [bytesL_at 4 _ hj4] at hj
                  rw [Addr.add_mid, Nat.zero_add, ← hj]
                  exact cell4 hT.t hj4
                · intro u hu
                  simp only [bytesL, List.mem_map] at hu
                  obtain ⟨z, _, rfl⟩ := hu
                  rfl
                · rw [setRow_heap _ _ _ _ _ _ hs, bytesL_len, bA_splice 16 (4 * i) 4 _ _ (by omega), spl_nk f c key i]
                  rfl
                · rw [setRow_other _ _ _ _ (by omega)]; exact hT.r
                · rw [setRow_other _ _ _ _ (by omega)]; exact hT.t
              | n + 5, h => exact absurd h (by simp)
            · intro l W hall hT
              simp only [hall 4 (by simp), if_true] at hT
              have KT2 : Hid (_) := hT
              clear hall hT KT
              simp only [putP, ckV, Act.put, List.setIfInBounds_toArray, List.set_cons_succ, List.set_cons_zero]
              go_wp2
              go_roundw
              case rel => exact ⟨i + 1, by have := HI.out; omega, by go_num, KT2.out⟩
              case measure => have := HI.out; simp [intOf]; omega
      · have i1 : ¬ (i : Int) < 4 := by omega
        have ek : i = 4 := by omega
        subst ek
        have G : Hid (wr.heap[A]? = some (.cells (bA 16 (nk f c key)) 34)) := by
          have h := kt.s
          rw [bA_congr (g := nk f c key) (fun j hj => by unfold mixU; rw [if_pos (by omega)])] at h
          exact h
        go_wp2_with (first
          | (refine atLoad 34 (.tmp 3) rfl ?_; go_must (refine wpList_load_row rfl 34 (.tmp 3) rfl A rfl 34 _ (0, 0) _ G.out Tryz.underlying34 rfl (size16 _) ?_; simp only [Act.put, List.setIfInBounds_toArray, List.set_cons_succ, List.set_cons_zero]))
          | (refine atStore 34 (.tmp 6) (.tmp 53) rfl ?_; go_must (refine wpList_store_row rfl 34 (.tmp 6) (.tmp 53) rfl (A + 1) _ rfl rfl 34 _ kt.r (size16 _) rfl (bA_one _ _) ?_)))
        refine bodyPost_ret (v := .agg (bA 16 (nk f c key))) (results_cell_row Tryz.results140 _ _ (A + 1) 34 _ (0, 0) _ rfl (setRow_heap _ _ _ _ _ _ kt.r) Tryz.underlying34 rfl (size16 _)) rfl ⟨rfl, ?_⟩
        rw [VA.out]
        exact below4 kt.bel (by omega) _
end Go.Proofs.YtjckkdjldnobmaaGreatDoor.Aes

namespace Go.Proofs.YtjckkdjldnobmaaGreatDoor.Aes
open Go.RowKit Gf8
/- The program's block: sum. -/

/-- Two blocks, byte by byte. -/
def xorB (a b : Nat → Nat) : Nat → Nat := fun j => a j ^^^ b j
theorem addR_xorB (w b : Nat → Nat) (i : Nat) : xorB b (fun j => w (16 * i + j)) = addR w b i := rfl
/-- What each operation of 'a[i] ^= b[i]' yields. -/
def smV (A k : Nat) (a b : Nat → Nat) (j : Nat) : Value :=
  match j with
  | 0 => .int .i64 k | 1 => .pointer (some ⟨A, k, none⟩) | 2 => .int .u8 (a k) | 3 => .int .i64 k | 4 => .pointer (some ⟨A + 1, k, none⟩)
  | 5 => .int .u8 (b k) | 6 => .int .u8 (xorB a b k : Nat) | 7 => .pointer (some ⟨A, k, none⟩) | _ => undef
structure SmT (A k : Nat) (a b : Nat → Nat) (V : World) (l : Nat → Bool) (W : World) : Prop where
  m : W.heap[A]? = some (.cells (bA 16 (mixU (xorB a b) a (if l 8 = true then k + 1 else k))) 34)
  w : W.heap[A + 1]? = some (.cells (bA 16 b) 34)
  r : W.heap[A + 2]? = some (.cells (bA 16 fun _ => 0) 34)
  bel : Below A V W

set_option maxRecDepth 20000 in
set_option maxHeartbeats 400000 in
theorem sum_any (a b : Nat → Nat) (V : World) (ha : By a) (hb : By b) :
    Calls Tryz.prog 142 #[.agg (bA 16 a), .agg (bA 16 b)] V fun e w' => e = .returned (.agg (bA 16 (xorB a b))) ∧ Below V.heap.size V w' := by
  have HA : Hid (By a) := ha
  have HB : Hid (By b) := hb
  clear ha hb
  have z := zero16
  go_enter Tryz.func142, Tryz.ntmps142
  go_wp2_with fail
  have t0 : SmT V.heap.size 0 a b V (fun _ => false) (((V.alloc (.cells (bA 16 a) 34)).alloc (.cells (bA 16 b) 34)).alloc (.cells (bA 16 fun _ => 0) 34)) := by
    have h := heap3c V (.cells (bA 16 a) 34) (.cells (bA 16 b) 34) (.cells (bA 16 fun _ => 0) 34)
    exact ⟨h.1, h.2.1, h.2.2, below3c _ _ _ _⟩
  obtain ⟨A, hA⟩ : ∃ A, A = V.heap.size := ⟨_, rfl⟩
  rw [← hA] at t0 ⊢
  have VA : Hid (V.heap.size = A) := hA.symm
  have T0 : Hid (_) := t0
  clear z t0 hA
  rw [show A + 1 + 1 = A + 2 from rfl]
  go_loopw [6] (fun x W => ∃ k : Nat, k ≤ 16 ∧ x = .int .i64 k ∧ SmT A k a b V (fun _ => false) W) (fun x _ => 16 - (intOf x).toNat)
  case atStart => exact ⟨0, by omega, rfl, T0.out⟩
  case round =>
    obtain ⟨k, hk, rfl, kt⟩ := hrel
    have KT : Hid (_) := kt
    clear kt T0
    by_cases hlt : k < 16
    · have i1 : (k : Int) < 16 := by omega
      have HL : Hid (k < 16) := hlt
      clear hlt hk
      go_wp2_with fail
      refine wp_region_det 19 [(0, 9), (1, 10), (2, 11), (3, 12), (4, 13), (5, 14), (6, 15), (7, 16)] (smV A k a b) (SmT A k a b V) (by kernel_rfl) (by kernel_rfl) rfl (by kernel_rfl) (by decide) (by decide) ?_ ?_ ?_
      · exact ⟨KT.out.m, KT.out.w, KT.out.r, KT.out.bel.drew⟩
      · intro j hj l a W hl hf hdep hl2 hcl _ hT
        have lk := HL.out
        match j, hj with
        | 0, _ => exact stepV rfl rfl (execMvB rfl (hf 5 (by decide))) ⟨⟨_, rfl, rfl⟩, ⟨hT.m, hT.w, hT.r, hT.bel⟩⟩
        | 1, _ => exact stepV rfl rfl (execIdx16 rfl (hf 2 (by decide)) (hdep _ rfl 0 rfl _ rfl _ rfl) lk) ⟨⟨_, rfl, rfl⟩, ⟨hT.m, hT.w, hT.r, hT.bel⟩⟩
        | 2, _ =>
          have n8 : l 8 = false := by
            cases h : l 8 with
            | false => rfl
            | true =>
              have := hcl 6 _ rfl (hcl 8 _ rfl h 6 rfl) 2 rfl
              rw [hl] at this
              cases this
          have ge := hT.m
          rw [n8, if_neg (by decide)] at ge
          refine stepV rfl rfl (execLdB rfl (hdep _ rfl 1 rfl _ rfl _ rfl) (cellN ge lk)) ⟨⟨_, rfl, congrArg (fun z : Nat => Act.put a _ (.int .u8 z)) ?_⟩, ⟨hT.m, hT.w, hT.r, hT.bel⟩⟩
          unfold mixU; rw [if_neg (by omega)]
        | 3, _ => exact stepV rfl rfl (execMvB rfl (hf 5 (by decide))) ⟨⟨_, rfl, rfl⟩, ⟨hT.m, hT.w, hT.r, hT.bel⟩⟩
        | 4, _ => exact stepV rfl rfl (execIdx16 rfl (hf 3 (by decide)) (hdep _ rfl 3 rfl _ rfl _ rfl) lk) ⟨⟨_, rfl, rfl⟩, ⟨hT.m, hT.w, hT.r, hT.bel⟩⟩
        | 5, _ => exact stepV rfl rfl (execLdB rfl (hdep _ rfl 4 rfl _ rfl _ rfl) (cellN hT.w lk)) ⟨⟨_, rfl, rfl⟩, ⟨hT.m, hT.w, hT.r, hT.bel⟩⟩
        | 6, _ => exact stepV rfl rfl (execXor5 rfl (hdep _ rfl 2 rfl _ rfl _ rfl) (hdep _ rfl 5 rfl _ rfl _ rfl) (HA.out k lk) (HB.out k lk)) ⟨⟨_, rfl, rfl⟩, ⟨hT.m, hT.w, hT.r, hT.bel⟩⟩
        | 7, _ => exact stepV rfl rfl (execIdx16 rfl (hf 2 (by decide)) (hdep _ rfl 0 rfl _ rfl _ rfl) lk) ⟨⟨_, rfl, rfl⟩, ⟨hT.m, hT.w, hT.r, hT.bel⟩⟩
        | 8, _ =>
          have ge := hT.m
          rw [hl, if_neg (by decide)] at ge
          refine stepS rfl rfl (execStB rfl (hdep _ rfl 7 rfl _ rfl _ rfl) (hdep _ rfl 6 rfl _ rfl _ rfl) (cellN ge lk) (frozen4 ge)) ⟨⟨_, rfl, rfl⟩, ⟨?_, ?_, ?_, hT.bel.setCell (Nat.le_refl _) _⟩⟩
          · rw [heap4 _ ge]; exact congrArg (fun z => some (Obj.cells z 34)) ((bA_set 16 _ k _).trans (congrArg (bA 16) (updN_mixU _ _ k)))
          · rw [heap4o _ ge (by omega)]; exact hT.w
          · rw [heap4o _ ge (by omega)]; exact hT.r
        | n + 9, h => exact absurd h (by simp)
      · intro l W hall hT
        have he := hT.m
        rw [hall 8 (by simp), if_pos rfl] at he
        have KT2 : Hid (SmT A (k + 1) a b V (fun _ => false) W) := ⟨he, hT.w, hT.r, hT.bel⟩
        clear hall hT he KT
        simp only [putP, smV, Act.put, List.setIfInBounds_toArray, List.set_cons_succ, List.set_cons_zero]
        go_wp2
        go_roundw
        case rel => exact ⟨k + 1, by have := HL.out; omega, by go_num, KT2.out⟩
        case measure => have := HL.out; simp [intOf]; omega
    · have i1 : ¬ (k : Int) < 16 := by omega
      have ek : k = 16 := by omega
      subst ek
      have G : Hid (wr.heap[A]? = some (.cells (bA 16 (xorB a b)) 34)) := by
        have h := KT.out.m
        rw [if_neg (by decide)] at h
        rw [bA_congr (g := xorB a b) (fun j hj => by unfold mixU; rw [if_pos hj])] at h
        exact h
      go_wp2_with (first
        | (refine atLoad 34 (.tmp 2) rfl ?_; go_must (refine wpList_load_row rfl 34 (.tmp 2) rfl A rfl 34 _ (0, 0) _ G.out Tryz.underlying34 rfl (size16 _) ?_; simp only [Act.put, List.setIfInBounds_toArray, List.set_cons_succ, List.set_cons_zero]))
        | (refine atStore 34 (.tmp 4) (.tmp 18) rfl ?_; go_must (refine wpList_store_row rfl 34 (.tmp 4) (.tmp 18) rfl (A + 2) _ rfl rfl 34 _ KT.out.r (size16 _) rfl (bA_one _ _) ?_)))
      refine bodyPost_ret (v := .agg (bA 16 (xorB a b))) (results_cell_row Tryz.results142 _ _ (A + 2) 34 _ (0, 0) _ rfl (setRow_heap _ _ _ _ _ _ KT.out.r) Tryz.underlying34 rfl (size16 _)) rfl ⟨rfl, ?_⟩
      rw [VA.out]
      exact below4 KT.out.bel (by omega) _
end Go.Proofs.YtjckkdjldnobmaaGreatDoor.Aes

namespace Go.Proofs.YtjckkdjldnobmaaGreatDoor.Aes
open Go.RowKit Gf8
/- The program's block: a Schedule's cells; scheduled. -/

theorem size29 (f : Nat → Nat) : (Tryz.prog.info? 202).map (·.size) = some (bA 176 f).size := by rw [bA_size]; kernel_rfl
theorem zero29 : ∀ w, (zeroValue 202).run Tryz.prog w = .ok (.agg (bA 176 fun _ => 0)) w :=
  (zero_of_info (n := 176) (by kernel_rfl)).1
section
variable {P : Program} {ops : Array Oper} {rest : List Oper} {o : Oper} {a : Act} {w w' : World} {Q : Exit → Act → World → Prop}
theorem execFldS {x : Operand} {g : Nat} (ho : o.op = .fieldAddr 202 x 0) (hx : a.eval x = .pointer (some ⟨g, 0, none⟩)) : (execOp a.eval o).run Tryz.prog w = .ok (.value (.pointer (some ⟨g, 0, none⟩))) w := by
  unfold execOp
  simp only [ho, hx]
  simp [go_sem]
theorem execIdxK {x i : Operand} {g k : Nat} (ho : o.op = .indexAddr 200 x i) (hx : a.eval x = .pointer (some ⟨g, 0, none⟩)) (hi : a.eval i = .int .i64 (k : Int)) (hk : k < 11) : (execOp a.eval o).run Tryz.prog w = .ok (.value (.pointer (some ⟨g, 16 * k, none⟩))) w := by
  have h1 : (k : Int) < 11 := by omega
  have h2 : k * 16 = 16 * k := by omega
  unfold execOp
  simp only [ho, hx, hi]
  simp [go_sem, h1, h2]
/-- A round key into a Schedule. -/
theorem execStKey {x y : Operand} {g i : Nat} {f k : Nat → Nat} {t : TypeId} (ho : o.op = .store 34 x y) (hx : a.eval x = .pointer (some ⟨g, 16 * i, none⟩)) (hy : a.eval y = .agg (bA 16 k)) (hg : w.heap[g]? = some (.cells (bA 176 f) t)) (hi : i < 11) :
    (execOp a.eval o).run Tryz.prog w = .ok .skip (w.setRow g (bA 176 (spl f (16 * i) 16 k))) := by
  have h := execStMid (P := Tryz.prog) ho hx hy hg (by rw [bA_size, bA_size]; omega) (size16 k) (bA_one 16 k)
  rw [bA_size, show (bA 16 k).toList = bytesL 16 k from rfl, bA_splice 176 (16 * i) 16 f k (by omega)] at h
  exact h
/-- A round key out of a Schedule. -/
theorem execLdKey {x : Operand} {g i : Nat} {f : Nat → Nat} {t : TypeId} (ho : o.op = .load 34 x) (hx : a.eval x = .pointer (some ⟨g, 16 * i, none⟩)) (hg : w.heap[g]? = some (.cells (bA 176 f) t)) (hi : i < 11) :
    (execOp a.eval o).run Tryz.prog w = .ok (.value (.agg (bA 16 fun j => f (16 * i + j)))) w := by
  refine execLoadMid (cs := bytesL 16 fun j => f (16 * i + j)) ho hx ?_ Tryz.underlying34 rfl (by rw [bytesL_len]; kernel_rfl)
  intro j v hj
  have h16 : j < 16 := by have := (List.getElem?_eq_some_iff.1 hj).1; rwa [bytesL_len] at this
  rw [bytesL_at 16 _ h16] at hj
  rw [← hj]
  exact cellN hg (by omega)
/-- A whole array as a row. -/
theorem execSt16 {x y : Operand} {g : Nat} {f k : Nat → Nat} (ho : o.op = .store 34 x y) (hx : a.eval x = .pointer (some ⟨g, 0, none⟩)) (hy : a.eval y = .agg (bA 16 k)) (hg : w.heap[g]? = some (.cells (bA 16 f) 34)) :
    (execOp a.eval o).run Tryz.prog w = .ok .skip (w.setRow g (bA 16 k)) := by
  have h := execStMid (P := Tryz.prog) ho hx hy hg (by rw [bA_size, bA_size]; omega) (size16 k) (bA_one 16 k)
  rw [bA_size, show (bA 16 k).toList = bytesL 16 k from rfl, bA_splice 16 0 16 f k (by omega)] at h
  rw [bA_congr (g := k) (fun j hj => by unfold spl; rw [if_pos (by omega)]; rfl)] at h
  exact h
end
/-- The rows of scheduled. -/
structure SdT (A n : Nat) (key : Nat → Nat) (V W : World) : Prop where
  k : W.heap[A]? = some (.cells (bA 16 key) 34)
  r : W.heap[A + 1]? = some (.cells (bA 176 fun _ => 0) 202)
  s : W.heap[A + 2]? = some (.cells (bA 176 (uptoC (kw key) n)) 202)
  bel : Below A V W
theorem SdT.lt {A n : Nat} {key : Nat → Nat} {V W : World} (h : SdT A n key V W) : A + 2 < W.heap.size := (Array.getElem?_eq_some_iff.1 h.s).1
theorem SdT.on {A n : Nat} {key : Nat → Nat} {V W W' : World} (h : SdT A n key V W) (hb : Below W.heap.size W W') : SdT A n key V W' := by
  have l := h.lt
  exact ⟨by rw [hb.block _ (by omega)]; exact h.k, by rw [hb.block _ (by omega)]; exact h.r, by rw [hb.block _ (by omega)]; exact h.s, h.bel.trans (hb.mono (by omega))⟩
theorem SdT.next {A n : Nat} {key : Nat → Nat} {V W : World} (h : SdT A (16 * n) key V W) : SdT A (16 * (n + 1)) key V (W.setRow (A + 2) (bA 176 (spl (uptoC (kw key) (16 * n)) (16 * n) 16 fun j => kw key (16 * n + j)))) := by
  refine ⟨by rw [setRow_other _ _ _ _ (by omega)]; exact h.k, by rw [setRow_other _ _ _ _ (by omega)]; exact h.r, ?_, below4 h.bel (by omega) _⟩
  rw [setRow_heap _ _ _ _ _ _ h.s]
  congr 3
  funext i
  unfold spl uptoC
  by_cases h1 : 16 * n ≤ i ∧ i < 16 * n + 16
  · rw [if_pos h1, if_pos (by omega)]
    exact congrArg (kw key) (by omega)
  · rw [if_neg h1]
    by_cases h2 : i < 16 * n
    · rw [if_pos h2, if_pos (by omega)]
    · rw [if_neg h2, if_neg (by omega)]
theorem SdT.first {A : Nat} {key : Nat → Nat} {V W : World} (h : SdT A (16 * 0) key V W) : SdT A (16 * (0 + 1)) key V (W.setRow (A + 2) (bA 176 (spl (uptoC (kw key) (16 * 0)) (16 * 0) 16 key))) := by
  rw [bA_congr (g := spl (uptoC (kw key) (16 * 0)) (16 * 0) 16 fun j => kw key (16 * 0 + j)) (fun i _ => by
    unfold spl
    by_cases h1 : 16 * 0 ≤ i ∧ i < 16 * 0 + 16
    · rw [if_pos h1, if_pos h1]
      show key (i - 16 * 0) = kw key (16 * 0 + (i - 16 * 0))
      rw [show 16 * 0 + (i - 16 * 0) = i by omega, kw_low key (by omega)]; rfl
    · rw [if_neg h1, if_neg h1])]
  exact h.next

set_option maxRecDepth 20000 in
set_option maxHeartbeats 1000000 in
theorem scheduled_any (g : Nat) (lb : Array Value) (key : Nat → Nat) (V : World) (hF : FnB g lb gsub V) (hk : By key) :
    Calls Tryz.prog 127 #[.agg (bA 16 key), .func (.func g) #[] lb] V fun e w' => e = .returned (.agg (bA 176 (kw key))) ∧ Below V.heap.size V w' := by
  have HK : Hid (By key) := hk
  have HF : Hid (FnB g lb gsub V) := hF
  clear hk hF
  have z := zero29
  go_enter Tryz.func127, Tryz.ntmps127
  have h3 := heap3c V (.cells (bA 16 key) 34) (.cells (bA 176 fun _ => 0) 202) (.cells (bA 176 fun _ => 0) 202)
  have kt : SdT V.heap.size (16 * 0) key V (((V.alloc (.cells (bA 16 key) 34)).alloc (.cells (bA 176 fun _ => 0) 202)).alloc (.cells (bA 176 fun _ => 0) 202)) := ⟨h3.1, h3.2.1, h3.2.2, below3c _ _ _ _⟩
  clear h3
  go_wp2_with (first
    | (refine atLoad 34 (.tmp 2) rfl ?_; go_must (refine wpList_load_row rfl 34 (.tmp 2) rfl V.heap.size rfl 34 _ (0, 0) _ kt.k Tryz.underlying34 rfl (size16 _) ?_; simp only [Act.put, List.setIfInBounds_toArray, List.set_cons_succ, List.set_cons_zero]))
    | (refine wpList_ex rfl (execFldS rfl rfl) ?_)
    | (refine wpList_ex rfl (execIdxK (k := 0) rfl rfl rfl (by omega)) ?_)
    | (refine atStore 34 (.tmp 10) (.tmp 8) rfl ?_; go_must (refine wpList_exS rfl (execStKey (i := 0) rfl rfl rfl kt.s (by omega)) ?_; have kt := kt.first)))
  have KT : Hid (_) := kt
  clear kt
  obtain ⟨A, hA⟩ : ∃ A, A = V.heap.size := ⟨_, rfl⟩
  rw [← hA] at KT ⊢
  have VA : Hid (V.heap.size = A) := hA.symm
  clear hA z
  rw [show A + 1 + 1 = A + 2 from rfl]
  go_loopw [6, 11] (fun c x W => ∃ n : Nat, n ≤ 10 ∧ c = .int .u8 (rcon n) ∧ x = .int .i64 n ∧ SdT A (16 * (n + 1)) key V W) (fun _ x _ => 10 - (intOf x).toNat)
  case atStart => exact ⟨0, by omega, rfl, rfl, KT.out⟩
  case round =>
    obtain ⟨n, hn, rfl, rfl, kt⟩ := hrel
    clear KT
    by_cases hlt : n < 10
    · have i1 : (n : Int) < 10 := by omega
      obtain ⟨m, hm⟩ : ∃ m, n + 1 = m := ⟨_, rfl⟩
      have e1 : (n : Int) + 1 = m := by omega
      have l1 : (m : Int) < 12 := by omega
      have HL : Hid (n < 10 ∧ n + 1 = m) := ⟨hlt, hm⟩
      obtain ⟨c, hc⟩ : ∃ c, rcon n = c := ⟨_, rfl⟩
      have hc2 : c < 256 := by rw [← hc]; exact rcon_lt n
      have EC : Hid (gm 2 c = rcon (n + 1)) := by
        show gm 2 c = xt (rcon n)
        rw [hc]; exact (small_all ⟨c, hc2⟩).1
      have NK := nextKey_any g lb gsub c (fun j => kw key (16 * n + j)) wr (HF.out.on (by rw [VA.out]; exact kt.bel)) hc2 (fun j hj => kw_lt HK.out _)
      have EK : bA 16 (nk gsub c fun j => kw key (16 * n + j)) = bA 16 fun j => kw key (16 * m + j) := bA_congr fun j hj => by rw [← hm, ← hc]; exact kw_nk key n j hj
      rw [EK] at NK
      have ML := fun W : World => mul_any 2 c W (by omega) hc2
      have GL : Hid (wr.heap[A + 2]? = some (.cells (bA 176 (uptoC (kw key) (16 * (n + 1)))) 202)) := kt.s
      have EL : Hid (bA 16 (fun j => uptoC (kw key) (16 * (n + 1)) (16 * n + j)) = bA 16 fun j => kw key (16 * n + j)) := bA_congr fun j hj => by unfold uptoC; rw [if_pos (by omega)]
      have HC : Hid (rcon n = c) := hc
      rw [hc]
      clear hlt hn EK hc
      go_wp2_with (first
        | (refine wpList_ex rfl (execFldS rfl rfl) ?_)
        | (refine wpList_ex rfl (execIdxK (k := n) rfl rfl rfl (by have := HL.out; omega)) ?_)
        | (refine wpList_ex rfl (execIdxK (k := m) rfl rfl rfl (by have := HL.out; omega)) ?_)
        | (refine atLoad 34 (.tmp 18) rfl ?_; go_must (refine wpList_ex rfl (execLdKey (i := n) rfl rfl GL.out (by have := HL.out; omega)) ?_; rw [EL.out]))
        | (go_at_call 140; refine NK.mono ?_; rintro e w1 ⟨rfl, hb1⟩; have kt := kt.on hb1; rw [hm] at kt)
        | (go_at_call 141; refine (ML _).mono ?_; rintro e w2 ⟨rfl, rfl⟩)
        | (refine atStore 34 (.tmp 24) (.tmp 22) rfl ?_; go_must (refine wpList_exS rfl (execStKey (i := m) rfl rfl rfl kt.s (by have := HL.out; omega)) ?_; have kt := kt.next)))
      go_roundw
      case rel => exact ⟨n + 1, by have := HL.out; omega, by rw [EC.out], by have := HL.out; go_num, by rw [HL.out.2]; exact kt⟩
      case measure => have := HL.out; simp [intOf]; omega
    · have i1 : ¬ (n : Int) < 10 := by omega
      have ek : n = 10 := by omega
      subst ek
      have G : Hid (wr.heap[A + 2]? = some (.cells (bA 176 (kw key)) 202)) := by
        have h := kt.s
        rw [bA_congr (g := kw key) (fun j hj => by unfold uptoC; rw [if_pos (by omega)])] at h
        exact h
      go_wp2_with (first
        | (refine atLoad 202 (.tmp 5) rfl ?_; go_must (refine wpList_load_row rfl 202 (.tmp 5) rfl (A + 2) rfl 202 _ (0, 0) _ G.out Tryz.underlying202 rfl (size29 _) ?_; simp only [Act.put, List.setIfInBounds_toArray, List.set_cons_succ, List.set_cons_zero]))
        | (refine atStore 202 (.tmp 4) (.tmp 28) rfl ?_; go_must (refine wpList_store_row rfl 202 (.tmp 4) (.tmp 28) rfl (A + 1) _ rfl rfl 202 _ kt.r (size29 _) (by rw [bA_size, bA_size]) (bA_one _ _) ?_)))
      refine bodyPost_ret (v := .agg (bA 176 (kw key))) (results_cell_row Tryz.results127 _ _ (A + 1) 202 _ (0, 0) _ rfl (setRow_heap _ _ _ _ _ _ kt.r) Tryz.underlying202 rfl (size29 _)) rfl ⟨rfl, ?_⟩
      rw [VA.out]
      exact below4 kt.bel (by omega) _
end Go.Proofs.YtjckkdjldnobmaaGreatDoor.Aes

namespace Go.Proofs.YtjckkdjldnobmaaGreatDoor.Aes
open Go.RowKit Gf8
/- The program's block: New, Round, encrypted, Encrypt, Decrypt. -/

theorem fn_column (V : World) : FnC 146 fwd V :=
  ⟨enters_of Tryz.func146 (by kernel_rfl) rfl, fun c W hc _ => column_any c W hc⟩
end Go.Proofs.YtjckkdjldnobmaaGreatDoor.Aes
