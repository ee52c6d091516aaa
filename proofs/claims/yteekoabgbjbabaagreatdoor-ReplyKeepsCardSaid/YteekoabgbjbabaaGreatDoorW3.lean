import Derived.Test.YteekoabgbjbabaaGreatDoorJ5
import Derived.Shelf.Abstract
import Derived.Test.YteekoabgbjbabaaGreatDoorY3
import Derived.Test.YteekoabgbjbabaaGreatDoorI1
import Derived.Deep.MidRow
import Derived.Laws.CopyRow
namespace Go.Proofs.YteekoabgbjbabaaGreatDoor.Aes
open Go.RowKit Gf8
/- The program's block: a function that is handed in; substituted; turned. -/

/-- A function of bytes as a value: function g with what it has captured, called in any world that keeps what lay in V. -/
structure FnB (g : Nat) (lb : Array Value) (f : Nat → Nat) (V : World) : Prop where
  enters : Enters Tryz.prog g
  gives : ∀ (a : Nat) (W : World), a < 256 → Below V.heap.size V W → Calls Tryz.prog g (#[.int .u8 a] ++ lb) W fun e w' => e = .returned (.int .u8 (f a : Nat)) ∧ Below W.heap.size W w'
  lt : ∀ a, a < 256 → f a < 256
theorem FnB.on {g : Nat} {lb : Array Value} {f : Nat → Nat} {V W : World} (h : FnB g lb f V) (hb : Below V.heap.size V W) : FnB g lb f W :=
  ⟨h.enters, fun a U ha hU => h.gives a U ha (hb.trans (hU.mono hb.size)), h.lt⟩
/-- The rows of substituted. -/
structure SuT (A k : Nat) (f b : Nat → Nat) (V W : World) : Prop where
  b : W.heap[A]? = some (.cells (bA 16 (mixU (fun j => f (b j)) b k)) 35)
  r : W.heap[A + 1]? = some (.cells (bA 16 fun _ => 0) 35)
  bel : Below A V W
theorem SuT.lt {A k : Nat} {f b : Nat → Nat} {V W : World} (h : SuT A k f b V W) : A + 1 < W.heap.size := (Array.getElem?_eq_some_iff.1 h.r).1
theorem SuT.on {A k : Nat} {f b : Nat → Nat} {V W W' : World} (h : SuT A k f b V W) (hb : Below W.heap.size W W') : SuT A k f b V W' := by
  have l := h.lt
  exact ⟨by rw [hb.block _ (by omega)]; exact h.b, by rw [hb.block _ (by omega)]; exact h.r, h.bel.trans (hb.mono (by omega))⟩
set_option maxRecDepth 20000 in
set_option maxHeartbeats 400000 in
theorem substituted_any (g : Nat) (lb : Array Value) (f b : Nat → Nat) (V : World) (hF : FnB g lb f V) (hb : By b) :
    Calls Tryz.prog 92 #[.agg (bA 16 b), .func (.func g) #[] lb] V fun e w' => e = .returned (.agg (bA 16 fun j => f (b j))) ∧ Below V.heap.size V w' := by
  have HB : Hid (By b) := hb
  have HF : Hid (FnB g lb f V) := hF
  have eg : ∀ (args : Array Value) (w : World), (callFunc g args).run Tryz.prog w = .ok (.enter g args) w := hF.enters
  clear hb hF
  have z := zero16
  go_enter Tryz.func92, Tryz.ntmps92
  go_wp2_with fail
  have t0 : SuT V.heap.size 0 f b V ((V.alloc (.cells (bA 16 b) 35)).alloc (.cells (bA 16 fun _ => 0) 35)) := by
    have h := heap2c V (.cells (bA 16 b) 35) (.cells (bA 16 fun _ => 0) 35)
    exact ⟨h.1, h.2, below2c _ _ _⟩
  obtain ⟨A, hA⟩ : ∃ A, A = V.heap.size := ⟨_, rfl⟩
  rw [← hA] at t0 ⊢
  have VA : Hid (V.heap.size = A) := hA.symm
  have T0 : Hid (_) := t0
  clear z t0 hA
  go_loopw [6] (fun x W => ∃ k : Nat, k ≤ 16 ∧ x = .int .i64 k ∧ SuT A k f b V W) (fun x _ => 16 - (intOf x).toNat)
  case atStart => exact ⟨0, by omega, rfl, T0.out⟩
  case round =>
    obtain ⟨k, hk, rfl, kt⟩ := hrel
    clear T0
    by_cases hlt : k < 16
    · have i1 : (k : Int) < 16 := by omega
      have HL : Hid (k < 16) := hlt
      obtain ⟨y, hy⟩ : ∃ y, b k = y := ⟨_, rfl⟩
      have y1 : y < 256 := by rw [← hy]; exact HB.out k hlt
      have c1 : wr.cell? ⟨A, k, none⟩ = some (.int .u8 y) := by rw [cellN kt.b hlt]; unfold mixU; rw [if_neg (by omega), hy]
      have CF := HF.out.gives y wr y1 (by rw [VA.out]; exact kt.bel)
      have KT : Hid (_) := kt
      have HY : Hid (b k = y) := hy
      clear hlt hk kt hy
      go_wp2_with (go_at_fn g; refine CF.mono ?_; rintro e w1 ⟨rfl, hb1⟩; have kt := KT.out.on hb1; have n1 : w1.cell? ⟨A, k, none⟩ = some (.int .u8 (mixU (fun j => f (b j)) b k k)) := cellN kt.b HL.out; have n2 : w1.frozen? ⟨A, k, none⟩ = false := frozen4 kt.b)
      have KT2 : Hid (SuT A (k + 1) f b V (w1.setCell ⟨A, k, none⟩ (.int .u8 (f y : Nat)))) := by
        refine ⟨?_, ?_, kt.bel.setCell (Nat.le_refl _) _⟩
        · rw [heap4 _ kt.b, bA_set, ← HY.out]; exact congrArg (fun z => some (Obj.cells (bA 16 z) 35)) (updN_mixU (fun j => f (b j)) b k)
        · rw [heap4o _ kt.b (by omega)]; exact kt.r
      go_roundw
      case rel => exact ⟨k + 1, by have := HL.out; omega, by go_num, KT2.out⟩
      case measure => have := HL.out; simp [intOf]; omega
    · have i1 : ¬ (k : Int) < 16 := by omega
      have ek : k = 16 := by omega
      subst ek
      have G : Hid (wr.heap[A]? = some (.cells (bA 16 fun j => f (b j)) 35)) := by
        have h := kt.b
        rw [bA_congr (g := fun j => f (b j)) (fun j hj => by unfold mixU; rw [if_pos hj])] at h
        exact h
      go_wp2_with (first
        | (refine atLoad 35 (.tmp 2) rfl ?_; go_must (refine wpList_load_row rfl 35 (.tmp 2) rfl A rfl 35 _ (0, 0) _ G.out Tryz.underlying35 rfl (size16 _) ?_; simp only [Act.put, List.setIfInBounds_toArray, List.set_cons_succ, List.set_cons_zero]))
        | (refine atStore 35 (.tmp 4) (.tmp 17) rfl ?_; go_must (refine wpList_store_row rfl 35 (.tmp 4) (.tmp 17) rfl (A + 1) _ rfl rfl 35 _ kt.r (size16 _) rfl (bA_one _ _) ?_)))
      refine bodyPost_ret (v := .agg (bA 16 fun j => f (b j))) (results_cell_row Tryz.results92 _ _ (A + 1) 35 _ (0, 0) _ rfl (setRow_heap _ _ _ _ _ _ kt.r) Tryz.underlying35 rfl (size16 _)) rfl ⟨rfl, ?_⟩
      rw [VA.out]
      exact below4 kt.bel (by omega) _

/-- Row r turned to the left by r times m places. -/
def turnB (m : Nat) (b : Nat → Nat) : Nat → Nat := fun j => b ((j + 4 * m * (j % 4)) % 16)
/-- The rows of turned. -/
structure TuT (A k m : Nat) (b : Nat → Nat) (V W : World) : Prop where
  s : W.heap[A]? = some (.cells (bA 16 b) 35)
  r : W.heap[A + 1]? = some (.cells (bA 16 fun _ => 0) 35)
  o : W.heap[A + 2]? = some (.cells (bA 16 (uptoC (turnB m b) k)) 35)
  bel : Below A V W

set_option maxRecDepth 20000 in
set_option maxHeartbeats 400000 in
theorem turned_any (m : Nat) (b : Nat → Nat) (V : World) (hm : m < 4) (hb : By b) :
    Calls Tryz.prog 91 #[.agg (bA 16 b), .int .i64 m] V fun e w' => e = .returned (.agg (bA 16 (turnB m b))) ∧ Below V.heap.size V w' := by
  have HB : Hid (By b) := hb
  have HM : Hid (m < 4) := hm
  clear hb hm
  have z := zero16
  go_enter Tryz.func91, Tryz.ntmps91
  go_wp2_with fail
  have t0 : TuT V.heap.size 0 m b V (((V.alloc (.cells (bA 16 b) 35)).alloc (.cells (bA 16 fun _ => 0) 35)).alloc (.cells (bA 16 fun _ => 0) 35)) := by
    have h := heap3c V (.cells (bA 16 b) 35) (.cells (bA 16 fun _ => 0) 35) (.cells (bA 16 fun _ => 0) 35)
    exact ⟨h.1, h.2.1, h.2.2, below3c _ _ _ _⟩
  obtain ⟨A, hA⟩ : ∃ A, A = V.heap.size := ⟨_, rfl⟩
  rw [← hA] at t0 ⊢
  have VA : Hid (V.heap.size = A) := hA.symm
  have T0 : Hid (_) := t0
  clear z t0 hA
  rw [show A + 1 + 1 = A + 2 from rfl]
  go_loopw [8] (fun x W => ∃ k : Nat, k ≤ 16 ∧ x = .int .i64 k ∧ TuT A k m b V W) (fun x _ => 16 - (intOf x).toNat)
  case atStart => exact ⟨0, by omega, rfl, T0.out⟩
  case round =>
    obtain ⟨k, hk, rfl, kt⟩ := hrel
    clear T0
    by_cases hlt : k < 16
    · have i1 : (k : Int) < 16 := by omega
      have HL : Hid (k < 16) := hlt
      have hm := HM.out
      obtain ⟨p4, h4⟩ : ∃ x, k % 4 = x := ⟨_, rfl⟩
      obtain ⟨p5, h5⟩ : ∃ x, 4 * m = x := ⟨_, rfl⟩
      obtain ⟨p6, h6⟩ : ∃ x, p5 * p4 = x := ⟨_, rfl⟩
      obtain ⟨p7, h7⟩ : ∃ x, k + p6 = x := ⟨_, rfl⟩
      obtain ⟨p, hp⟩ : ∃ x, p7 % 16 = x := ⟨_, rfl⟩
      have b6 : p6 ≤ 36 := by rw [← h6]; exact Nat.mul_le_mul (show p5 ≤ 12 by omega) (show p4 ≤ 3 by omega)
      have e4 : (k : Int).tmod 4 = p4 := by rw [Int.tmod_eq_emod_of_nonneg (by omega)]; omega
      have e5 : 4 * (m : Int) = p5 := by omega
      have e6 : (p5 : Int) * p4 = p6 := by rw [← h6]; exact (Int.natCast_mul _ _).symm
      have e7 : (k : Int) + p6 = p7 := by omega
      have e8 : (p7 : Int).tmod 16 = p := by rw [Int.tmod_eq_emod_of_nonneg (by omega)]; omega
      have l4 : (p4 : Int) < 4 := by omega
      have l5 : (p5 : Int) < 16 := by omega
      have l6 : (p6 : Int) < 37 := by omega
      have l7 : (p7 : Int) < 64 := by omega
      have l8 : (p : Int) < 16 := by omega
      have w5 : IntKind.i64.wrap (4 * (m : Int)) = p5 := by rw [e5]; exact wrap_i64_nat (by omega)
      have w6 : IntKind.i64.wrap ((p5 : Int) * p4) = p6 := by rw [e6]; exact wrap_i64_nat (by omega)
      obtain ⟨y, hy⟩ : ∃ y, b p = y := ⟨_, rfl⟩
      have hq : turnB m b k = y := by
        unfold turnB
        rw [h4, h5, h6, h7, hp, hy]
      have c1 : wr.cell? ⟨A, p, none⟩ = some (.int .u8 y) := by rw [cellN kt.s (by omega), hy]
      have c2 : wr.cell? ⟨A + 2, k, none⟩ = some (.int .u8 (uptoC (turnB m b) k k)) := cellN kt.o hlt
      have c3 : wr.frozen? ⟨A + 2, k, none⟩ = false := frozen4 kt.o
      have KT2 : Hid (TuT A (k + 1) m b V (wr.setCell ⟨A + 2, k, none⟩ (.int .u8 y))) := by
        refine ⟨?_, ?_, ?_, kt.bel.setCell (by simp) _⟩
        · rw [heap4o _ kt.o (by omega)]; exact kt.s
        · rw [heap4o _ kt.o (by omega)]; exact kt.r
        · rw [heap4 _ kt.o, bA_set, ← hq, updN_upto]
      clear hk kt hy hq h4 h5 h6 h7 hp hm b6 e6 e5
      go_wp2
      go_roundw
      case rel => exact ⟨k + 1, by have := HL.out; omega, by go_num, KT2.out⟩
      case measure => have := HL.out; simp [intOf]; omega
    · have i1 : ¬ (k : Int) < 16 := by omega
      have ek : k = 16 := by omega
      subst ek
      have G : Hid (wr.heap[A + 2]? = some (.cells (bA 16 (turnB m b)) 35)) := by
        have h := kt.o
        rw [bA_congr (g := turnB m b) (fun j hj => by unfold uptoC; rw [if_pos hj])] at h
        exact h
      go_wp2_with (first
        | (refine atLoad 35 (.tmp 5) rfl ?_; go_must (refine wpList_load_row rfl 35 (.tmp 5) rfl (A + 2) rfl 35 _ (0, 0) _ G.out Tryz.underlying35 rfl (size16 _) ?_; simp only [Act.put, List.setIfInBounds_toArray, List.set_cons_succ, List.set_cons_zero]))
        | (refine atStore 35 (.tmp 4) (.tmp 25) rfl ?_; go_must (refine wpList_store_row rfl 35 (.tmp 4) (.tmp 25) rfl (A + 1) _ rfl rfl 35 _ kt.r (size16 _) rfl (bA_one _ _) ?_)))
      refine bodyPost_ret (v := .agg (bA 16 (turnB m b))) (results_cell_row Tryz.results91 _ _ (A + 1) 35 _ (0, 0) _ rfl (setRow_heap _ _ _ _ _ _ kt.r) Tryz.underlying35 rfl (size16 _)) rfl ⟨rfl, ?_⟩
      rw [VA.out]
      exact below4 kt.bel (by omega) _
end Go.Proofs.YteekoabgbjbabaaGreatDoor.Aes

namespace Go.Proofs.YteekoabgbjbabaaGreatDoor.Aes
open Go.RowKit Gf8
/- The program's block: copy; mixed. -/

section
variable {P : Program} {ops : Array Oper} {rest : List Oper} {o : Oper} {a : Act} {w w' : World} {Q : Exit → Act → World → Prop}
/-- A piece of an array. -/
theorem sliceArrLH (b l h : Nat) (hl : l < 16) (h1 : l ≤ h) (hh : h ≤ 16) (W : World) : (Instr.sliceAt 35 (.pointer (some ⟨b, 0, none⟩)) (some (.int .i64 (l : Int))) (some (.int .i64 (h : Int))) none).run Tryz.prog W = .ok (.slice (some ⟨b, l, none⟩) (h - l) (16 - l)) W := by
  have e2 : (h : Int) ≤ 16 := by omega
  have e1 : (l : Int) ≤ h := by omega
  have e3 : ¬ 16 = l := by omega
  simp [Instr.sliceAt, Instr.sureAddr, run_underlying Tryz.underlying35, Instr.sliceBounds, run_sliceBound, go_sem, e2, h1, e3, Addr.add]
  omega
theorem sliceArrL (b l : Nat) (hl : l < 16) (W : World) : (Instr.sliceAt 35 (.pointer (some ⟨b, 0, none⟩)) (some (.int .i64 (l : Int))) none none).run Tryz.prog W = .ok (.slice (some ⟨b, l, none⟩) (16 - l) (16 - l)) W := by
  have e2 : (l : Int) ≤ 16 := by omega
  have e3 : ¬ 16 = l := by omega
  simp [Instr.sliceAt, Instr.sureAddr, run_underlying Tryz.underlying35, Instr.sliceBounds, run_sliceBound, go_sem, e2, e3, Addr.add]
  omega
theorem sliceArr4 (b : Nat) (W : World) : (Instr.sliceAt 125 (.pointer (some ⟨b, 0, none⟩)) none none none).run Tryz.prog W = .ok (.slice (some ⟨b, 0, none⟩) 4 4) W := by
  simp [Instr.sliceAt, Instr.sureAddr, run_underlying Tryz.underlying125, Instr.sliceBounds, go_sem, Addr.add]
theorem sliceArr16 (b : Nat) (W : World) : (Instr.sliceAt 35 (.pointer (some ⟨b, 0, none⟩)) none none none).run Tryz.prog W = .ok (.slice (some ⟨b, 0, none⟩) 16 16) W := by
  simp [Instr.sliceAt, Instr.sureAddr, run_underlying Tryz.underlying35, Instr.sliceBounds, go_sem, Addr.add]
/-- A slice as an array of four. -/
theorem execArr4 {x : Operand} {ad : Option Addr} {n c : Nat} (ho : o.op = .sliceToArrayPointer 125 x) (hx : a.eval x = .slice ad n c) (hn : 4 ≤ n) : (execOp a.eval o).run Tryz.prog w = .ok (.value (.pointer ad)) w := by
  have e : ¬ n < 4 := by omega
  unfold execOp
  simp only [ho, hx]
  simp [Instr.arrayAt, run_underlying Tryz.underlying125, e]
end
theorem bytesL_col (c : Nat → Nat) : (bytesL 4 c).toArray = col c := rfl

/-- A function of columns as a value. -/
structure FnC (g : Nat) (f : Nat → Nat) (V : World) : Prop where
  enters : Enters Tryz.prog g
  gives : ∀ (c : Nat → Nat) (W : World), (∀ i, i < 4 → c i < 256) → Below V.heap.size V W → Calls Tryz.prog g #[.agg (col c)] W fun e w' => e = .returned (.agg (col (mixk f c))) ∧ Below W.heap.size W w'
/-- The rows of mixed. -/
structure MiT (A n : Nat) (f b : Nat → Nat) (V W : World) : Prop where
  s : W.heap[A]? = some (.cells (bA 16 (mixU (mixB f b) b n)) 35)
  r : W.heap[A + 1]? = some (.cells (bA 16 fun _ => 0) 35)
  bel : Below A V W
theorem MiT.lt {A n : Nat} {f b : Nat → Nat} {V W : World} (h : MiT A n f b V W) : A + 1 < W.heap.size := (Array.getElem?_eq_some_iff.1 h.r).1
theorem MiT.on {A n : Nat} {f b : Nat → Nat} {V W W' : World} (h : MiT A n f b V W) (hb : Below W.heap.size W W') : MiT A n f b V W' := by
  have l := h.lt
  exact ⟨by rw [hb.block _ (by omega)]; exact h.s, by rw [hb.block _ (by omega)]; exact h.r, h.bel.trans (hb.mono (by omega))⟩
/-- What each operation of copy(b[i:], column[:]) yields. -/
def cpV (A T n : Nat) (j : Nat) : Value :=
  match j with
  | 0 => .int .i64 n | 1 => .slice (some ⟨A, n, none⟩) (16 - n) (16 - n) | 2 => .slice (some ⟨T, 0, none⟩) 4 4 | 3 => .int .i64 4 | _ => undef
/-- The rows within that region. -/
structure CpT (A T n : Nat) (f b d : Nat → Nat) (V : World) (l : Nat → Bool) (W : World) : Prop where
  m : MiT A (if l 3 = true then n + 4 else n) f b V W
  t : W.heap[T]? = some (.cells (col d) 125)
theorem mixB_col (f b : Nat → Nat) {n r : Nat} (hn : n % 4 = 0) (hr : r < 4) : mixB f b (n + r) = mixk f (fun s => b (n + s)) r := by
  unfold mixB
  rw [show (n + r) / 4 * 4 = n by omega, show (n + r) % 4 = r by omega]
theorem spl_mix (f b : Nat → Nat) {n : Nat} (hn : n % 4 = 0) : spl (mixU (mixB f b) b n) n 4 (mixk f fun s => b (n + s)) = mixU (mixB f b) b (n + 4) := by
  funext i
  unfold spl mixU
  by_cases h1 : n ≤ i ∧ i < n + 4
  · rw [if_pos h1, if_pos h1.2, show i = n + (i - n) by omega, mixB_col f b hn (by omega), show n + (i - n) - n = i - n by omega]
  · rw [if_neg h1]
    by_cases h2 : i < n
    · rw [if_pos h2, if_pos (by omega)]
    · rw [if_neg h2, if_neg (by omega)]

set_option maxRecDepth 20000 in
set_option maxHeartbeats 400000 in
theorem pmixed_any (g : Nat) (f b : Nat → Nat) (V : World) (hF : FnC g f V) (hb : By b) :
    Calls Tryz.prog 93 #[.agg (bA 16 b), .func (.func g) #[] #[]] V fun e w' => e = .returned (.agg (bA 16 (mixB f b))) ∧ Below V.heap.size V w' := by
  have HB : Hid (By b) := hb
  have HF : Hid (FnC g f V) := hF
  have eg : ∀ (args : Array Value) (w : World), (callFunc g args).run Tryz.prog w = .ok (.enter g args) w := hF.enters
  clear hb hF
  have z := zero16
  go_enter Tryz.func93, Tryz.ntmps93
  go_wp2_with fail
  have t0 : MiT V.heap.size 0 f b V ((V.alloc (.cells (bA 16 b) 35)).alloc (.cells (bA 16 fun _ => 0) 35)) := by
    have h := heap2c V (.cells (bA 16 b) 35) (.cells (bA 16 fun _ => 0) 35)
    exact ⟨h.1, h.2, below2c _ _ _⟩
  obtain ⟨A, hA⟩ : ∃ A, A = V.heap.size := ⟨_, rfl⟩
  rw [← hA] at t0 ⊢
  have VA : Hid (V.heap.size = A) := hA.symm
  have T0 : Hid (_) := t0
  clear z t0 hA
  go_loopw [5] (fun x W => ∃ n : Nat, n ≤ 16 ∧ n % 4 = 0 ∧ x = .int .i64 n ∧ MiT A n f b V W) (fun x _ => 16 - (intOf x).toNat)
  case atStart => exact ⟨0, by omega, rfl, rfl, T0.out⟩
  case round =>
    obtain ⟨n, hn, hn4, rfl, kt⟩ := hrel
    clear T0
    by_cases hlt : n < 16
    · have i1 : (n : Int) < 16 := by omega
      obtain ⟨n4, h4⟩ : ∃ x, n + 4 = x := ⟨_, rfl⟩
      have e4 : (n : Int) + 4 = n4 := by omega
      have l4 : (n4 : Int) < 20 := by omega
      have HL : Hid (n < 16 ∧ n % 4 = 0 ∧ n + 4 = n4) := ⟨hlt, hn4, h4⟩
      have RG : Hid (wr.rangeAt A n (bytesL 4 fun s => b (n + s))) := by
        intro j v hj
        have hj4 : j < 4 := by have := (List.getElem?_eq_some_iff.1 hj).1; rwa [bytesL_len] at this
        rw [bytesL_at 4 _ hj4] at hj
        rw [← hj, cellN kt.s (by omega)]
        unfold mixU; rw [if_neg (by omega)]
      have CF := HF.out.gives (fun s => b (n + s)) wr (fun i hi => HB.out _ (by omega)) (by rw [VA.out]; exact kt.bel)
      have KT : Hid (_) := kt
      have z4 : ∀ W, (zeroValue 125).run Tryz.prog W = .ok (.agg (col fun _ => 0)) W := (zero_of_info (n := 4) (by kernel_rfl)).1
      clear hlt hn hn4 h4 kt
      go_wp2_with (first
        | (refine wpList_ex rfl (execCutLH rfl rfl rfl rfl (sliceArrLH A n n4 HL.out.1 (by have := HL.out; omega) (by have := HL.out; omega) _)) ?_)
        | (refine wpList_ex rfl (execArr4 rfl rfl (by have := HL.out; omega)) ?_)
        | (refine atLoad 125 (.tmp 16) rfl ?_; go_must (refine wpList_ex rfl (execLoadMid rfl rfl RG.out Tryz.underlying125 rfl (by rw [bytesL_len]; kernel_rfl)) ?_; rw [bytesL_col]))
        | (go_at_fn g; refine CF.mono ?_; rintro e w1 ⟨rfl, hb1⟩; have kt := KT.out.on hb1)
        | (refine atStore 125 (.tmp 6) (.tmp 18) rfl ?_; go_must (refine wpList_store_row rfl 125 (.tmp 6) (.tmp 18) rfl w1.heap.size _ rfl rfl 125 _ (heapNew w1 _) (size4' _) rfl (col_one _) ?_)))
      have tA : A + 1 < w1.heap.size := kt.lt
      have k2 : MiT A n f b V ((w1.alloc (.cells (col fun _ => 0) 125)).setRow w1.heap.size (col (mixk f fun s => b (n + s)))) := by
        have k1 := kt.on (belNew w1 (.cells (col fun _ => 0) 125))
        exact ⟨by rw [setRow_other _ _ _ _ (by omega)]; exact k1.s, by rw [setRow_other _ _ _ _ (by omega)]; exact k1.r, below4 k1.bel (by omega) _⟩
      have gT : ((w1.alloc (.cells (col fun _ => 0) 125)).setRow w1.heap.size (col (mixk f fun s => b (n + s)))).heap[w1.heap.size]? = some (.cells (col (mixk f fun s => b (n + s))) 125) := setRow_heap _ _ _ _ _ _ (heapNew w1 _)
      obtain ⟨T, hT⟩ : ∃ T, T = w1.heap.size := ⟨_, rfl⟩
      obtain ⟨W0, hW⟩ : ∃ W0, W0 = (w1.alloc (.cells (col fun _ => 0) 125)).setRow w1.heap.size (col (mixk f fun s => b (n + s))) := ⟨_, rfl⟩
      rw [← hW] at k2 gT ⊢
      rw [← hT] at gT tA ⊢
      have CT : Hid (CpT A T n f b (mixk f fun s => b (n + s)) V (fun _ => false) W0) := ⟨k2, gT⟩
      have LT : Hid (A + 1 < T) := tA
      clear k2 gT hW hT hb1 kt KT CF RG tA z4
      refine wp_region_det 24 [(0, 19), (1, 20), (2, 21), (3, 22)] (cpV A T n) (CpT A T n f b (mixk f fun s => b (n + s)) V) (by kernel_rfl) (by kernel_rfl) rfl (by kernel_rfl) (by decide) (by decide) ?_ ?_ ?_
      · exact ⟨⟨CT.out.m.s, CT.out.m.r, CT.out.m.bel.drew⟩, CT.out.t⟩
      · intro j hj l a W hl hf hdep hl2 hcl _ hT
        have hL := HL.out
        match j, hj with
        | 0, _ => exact stepV rfl rfl (execMvB rfl (hf 5 (by decide))) ⟨⟨_, rfl, rfl⟩, ⟨hT.m, hT.t⟩⟩
        | 1, _ => exact stepV rfl rfl (execCutL rfl (hf 2 (by decide)) (hdep _ rfl 0 rfl _ rfl _ rfl) (sliceArrL A n hL.1 _)) ⟨⟨_, rfl, rfl⟩, ⟨hT.m, hT.t⟩⟩
        | 2, _ => exact stepV rfl rfl (execSlice rfl (hf 6 (by decide)) (sliceArr4 T _)) ⟨⟨_, rfl, rfl⟩, ⟨hT.m, hT.t⟩⟩
        | 3, _ =>
          have hm := hT.m
          rw [hl, if_neg (by decide)] at hm
          have hmin : Nat.min 4 (16 - n) = 4 := by show min 4 (16 - n) = 4; omega
          refine stepV rfl rfl (execCopyB (cs := bytesL 4 (mixk f fun s => b (n + s))) rfl (hdep _ rfl 1 rfl _ rfl _ rfl) (hdep _ rfl 2 rfl _ rfl _ rfl) hm.s (by rw [bytesL_len, hmin]) ?_ (by rw [bytesL_len, bA_size]; omega) ?_) ⟨⟨_, rfl, rfl⟩, ⟨⟨?_, ?_, below4 hm.bel (Nat.le_refl _) _⟩, ?_⟩⟩
          · intro j v hj
            have hj4 : j < 4 := by have := (List.getElem?_eq_some_iff.1 hj).1; rwa [bytesL_len] at this
            rw [bytesL_at 4 _ hj4] at hj
            rw [Addr.add_mid, cell_of_row _ _ _ _ _ _ hT.t, Nat.zero_add, ← hj]
            exact col_at _ hj4
          · intro u hu
            simp only [bytesL, List.mem_map] at hu
            obtain ⟨z, _, rfl⟩ := hu
            rfl
          · rw [setRow_heap _ _ _ _ _ _ hm.s, bytesL_len, bA_splice 16 n 4 _ _ (by omega), spl_mix f b hL.2.1]
            rfl
          · rw [setRow_other _ _ _ _ (by omega)]; exact hm.r
          · rw [setRow_other _ _ _ _ (by have := LT.out; omega)]; exact hT.t
        | n + 4, h => exact absurd h (by simp)
      · intro l W hall hT
        have he := hT.m
        rw [hall 3 (by simp), if_pos rfl] at he
        have KT2 : Hid (MiT A (n + 4) f b V W) := he
        clear hall hT he CT
        simp only [putP, cpV, Act.put, List.setIfInBounds_toArray, List.set_cons_succ, List.set_cons_zero]
        go_wp2
        go_roundw
        case rel => exact ⟨n + 4, by have := HL.out; omega, by have := HL.out; omega, by have := HL.out; go_num, KT2.out⟩
        case measure => have := HL.out; simp [intOf]; omega
    · have i1 : ¬ (n : Int) < 16 := by omega
      have ek : n = 16 := by omega
      subst ek
      have G : Hid (wr.heap[A]? = some (.cells (bA 16 (mixB f b)) 35)) := by
        have h := kt.s
        rw [bA_congr (g := mixB f b) (fun j hj => by unfold mixU; rw [if_pos hj])] at h
        exact h
      go_wp2_with (first
        | (refine atLoad 35 (.tmp 2) rfl ?_; go_must (refine wpList_load_row rfl 35 (.tmp 2) rfl A rfl 35 _ (0, 0) _ G.out Tryz.underlying35 rfl (size16 _) ?_; simp only [Act.put, List.setIfInBounds_toArray, List.set_cons_succ, List.set_cons_zero]))
        | (refine atStore 35 (.tmp 4) (.tmp 23) rfl ?_; go_must (refine wpList_store_row rfl 35 (.tmp 4) (.tmp 23) rfl (A + 1) _ rfl rfl 35 _ kt.r (size16 _) rfl (bA_one _ _) ?_)))
      refine bodyPost_ret (v := .agg (bA 16 (mixB f b))) (results_cell_row Tryz.results93 _ _ (A + 1) 35 _ (0, 0) _ rfl (setRow_heap _ _ _ _ _ _ kt.r) Tryz.underlying35 rfl (size16 _)) rfl ⟨rfl, ?_⟩
      rw [VA.out]
      exact below4 kt.bel (by omega) _
end Go.Proofs.YteekoabgbjbabaaGreatDoor.Aes
