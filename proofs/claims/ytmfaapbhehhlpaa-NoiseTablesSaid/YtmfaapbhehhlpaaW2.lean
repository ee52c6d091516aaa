import Derived.Test.YtmfaapbhehhlpaaI4
import Derived.Shelf.Abstract
namespace Go.Proofs.Ytmfaapbhehhlpaa.Aes
open Go.RowKit Gf8
/- The program's block: a function that is handed in; substituted; turned. -/

/-- A function of bytes as a value: function g with what it has captured, called in any world that keeps what lay in V. -/
structure FnB (g : Nat) (lb : Array Value) (f : Nat → Nat) (V : World) : Prop where
  enters : Enters Try.prog g
  gives : ∀ (a : Nat) (W : World), a < 256 → Below V.heap.size V W → Calls Try.prog g (#[.int .u8 a] ++ lb) W fun e w' => e = .returned (.int .u8 (f a : Nat)) ∧ Below W.heap.size W w'
  lt : ∀ a, a < 256 → f a < 256
theorem FnB.on {g : Nat} {lb : Array Value} {f : Nat → Nat} {V W : World} (h : FnB g lb f V) (hb : Below V.heap.size V W) : FnB g lb f W :=
  ⟨h.enters, fun a U ha hU => h.gives a U ha (hb.trans (hU.mono hb.size)), h.lt⟩
/-- The rows of substituted. -/
structure SuT (A k : Nat) (f b : Nat → Nat) (V W : World) : Prop where
  b : W.heap[A]? = some (.cells (bA 16 (mixU (fun j => f (b j)) b k)) 55)
  r : W.heap[A + 1]? = some (.cells (bA 16 fun _ => 0) 55)
  bel : Below A V W
theorem SuT.lt {A k : Nat} {f b : Nat → Nat} {V W : World} (h : SuT A k f b V W) : A + 1 < W.heap.size := (Array.getElem?_eq_some_iff.1 h.r).1
theorem SuT.on {A k : Nat} {f b : Nat → Nat} {V W W' : World} (h : SuT A k f b V W) (hb : Below W.heap.size W W') : SuT A k f b V W' := by
  have l := h.lt
  exact ⟨by rw [hb.block _ (by omega)]; exact h.b, by rw [hb.block _ (by omega)]; exact h.r, h.bel.trans (hb.mono (by omega))⟩
set_option maxRecDepth 20000 in
set_option maxHeartbeats 400000 in
theorem substituted_any (g : Nat) (lb : Array Value) (f b : Nat → Nat) (V : World) (hF : FnB g lb f V) (hb : By b) :
    Calls Try.prog 52 #[.agg (bA 16 b), .func (.func g) #[] lb] V fun e w' => e = .returned (.agg (bA 16 fun j => f (b j))) ∧ Below V.heap.size V w' := by
  have HB : Hid (By b) := hb
  have HF : Hid (FnB g lb f V) := hF
  have eg : ∀ (args : Array Value) (w : World), (callFunc g args).run Try.prog w = .ok (.enter g args) w := hF.enters
  clear hb hF
  have z := zero16
  go_enter Try.func52, Try.ntmps52
  go_wp2_with fail
  have t0 : SuT V.heap.size 0 f b V ((V.alloc (.cells (bA 16 b) 55)).alloc (.cells (bA 16 fun _ => 0) 55)) := by
    have h := heap2c V (.cells (bA 16 b) 55) (.cells (bA 16 fun _ => 0) 55)
    exact ⟨h.1, h.2, below2c _ _ _⟩
  obtain ⟨A, hA⟩ : ∃ A, A = V.heap.size := ⟨_, rfl⟩
  rw [← hA] at t0 ⊢
  have VA : Hid (V.heap.size = A) := hA.symm
  have T0 : Hid (_) := t0
  clear z t0 hA
  go_loopw [6] (fun x W => ∃ k : Nat, k ≤ 16 ∧ x = .int .i64 k ∧ SuT A k f b V W) (fun x _ => 16 - (intOf x).toNat)
  case atStart => exact ⟨0, by omega, rfl, T0.out⟩
  case round =>
    obtain ⟨k, hk, rfl, kt⟩ := hrel
    clear T0
    by_cases hlt : k < 16
    · have i1 : (k : Int) < 16 := by omega
      have HL : Hid (k < 16) := hlt
      obtain ⟨y, hy⟩ : ∃ y, b k = y := ⟨_, rfl⟩
      have y1 : y < 256 := by rw [← hy]; exact HB.out k hlt
      have c1 : wr.cell? ⟨A, k, none⟩ = some (.int .u8 y) := by rw [cellN kt.b hlt]; unfold mixU; rw [if_neg (by omega), hy]
      have CF := HF.out.gives y wr y1 (by rw [VA.out]; exact kt.bel)
      have KT : Hid (_) := kt
      have HY : Hid (b k = y) := hy
      clear hlt hk kt hy
      go_wp2_with (go_at_fn g; refine CF.mono ?_; rintro e w1 ⟨rfl, hb1⟩; have kt := KT.out.on hb1; have n1 : w1.cell? ⟨A, k, none⟩ = some (.int .u8 (mixU (fun j => f (b j)) b k k)) := cellN kt.b HL.out; have n2 : w1.frozen? ⟨A, k, none⟩ = false := frozen4 kt.b)
      have KT2 : Hid (SuT A (k + 1) f b V (w1.setCell ⟨A, k, none⟩ (.int .u8 (f y : Nat)))) := by
        refine ⟨?_, ?_, kt.bel.setCell (Nat.le_refl _) _⟩
        · rw [heap4 _ kt.b, bA_set, ← HY.out]; exact congrArg (fun z => some (Obj.cells (bA 16 z) 55)) (updN_mixU (fun j => f (b j)) b k)
        · rw [heap4o _ kt.b (by omega)]; exact kt.r
      go_roundw
      case rel => exact ⟨k + 1, by have := HL.out; omega, by go_num, KT2.out⟩
      case measure => have := HL.out; simp [intOf]; omega
    · have i1 : ¬ (k : Int) < 16 := by omega
      have ek : k = 16 := by omega
      subst ek
      have G : Hid (wr.heap[A]? = some (.cells (bA 16 fun j => f (b j)) 55)) := by
        have h := kt.b
        rw [bA_congr (g := fun j => f (b j)) (fun j hj => by unfold mixU; rw [if_pos hj])] at h
        exact h
      go_wp2_with (first
        | (refine atLoad 55 (.tmp 2) rfl ?_; go_must (refine wpList_load_row rfl 55 (.tmp 2) rfl A rfl 55 _ (0, 0) _ G.out Try.underlying55 rfl (size16 _) ?_; simp only [Act.put, List.setIfInBounds_toArray, List.set_cons_succ, List.set_cons_zero]))
        | (refine atStore 55 (.tmp 4) (.tmp 17) rfl ?_; go_must (refine wpList_store_row rfl 55 (.tmp 4) (.tmp 17) rfl (A + 1) _ rfl rfl 55 _ kt.r (size16 _) rfl (bA_one _ _) ?_)))
      refine bodyPost_ret (v := .agg (bA 16 fun j => f (b j))) (results_cell_row Try.results52 _ _ (A + 1) 55 _ (0, 0) _ rfl (setRow_heap _ _ _ _ _ _ kt.r) Try.underlying55 rfl (size16 _)) rfl ⟨rfl, ?_⟩
      rw [VA.out]
      exact below4 kt.bel (by omega) _

/-- Row r turned to the left by r times m places. -/
def turnB (m : Nat) (b : Nat → Nat) : Nat → Nat := fun j => b ((j + 4 * m * (j % 4)) % 16)
/-- The rows of turned. -/
structure TuT (A k m : Nat) (b : Nat → Nat) (V W : World) : Prop where
  s : W.heap[A]? = some (.cells (bA 16 b) 55)
  r : W.heap[A + 1]? = some (.cells (bA 16 fun _ => 0) 55)
  o : W.heap[A + 2]? = some (.cells (bA 16 (uptoC (turnB m b) k)) 55)
  bel : Below A V W

set_option maxRecDepth 20000 in
set_option maxHeartbeats 400000 in
theorem turned_any (m : Nat) (b : Nat → Nat) (V : World) (hm : m < 4) (hb : By b) :
    Calls Try.prog 51 #[.agg (bA 16 b), .int .i64 m] V fun e w' => e = .returned (.agg (bA 16 (turnB m b))) ∧ Below V.heap.size V w' := by
  have HB : Hid (By b) := hb
  have HM : Hid (m < 4) := hm
  clear hb hm
  have z := zero16
  go_enter Try.func51, Try.ntmps51
  go_wp2_with fail
  have t0 : TuT V.heap.size 0 m b V (((V.alloc (.cells (bA 16 b) 55)).alloc (.cells (bA 16 fun _ => 0) 55)).alloc (.cells (bA 16 fun _ => 0) 55)) := by
    have h := heap3c V (.cells (bA 16 b) 55) (.cells (bA 16 fun _ => 0) 55) (.cells (bA 16 fun _ => 0) 55)
    exact ⟨h.1, h.2.1, h.2.2, below3c _ _ _ _⟩
  obtain ⟨A, hA⟩ : ∃ A, A = V.heap.size := ⟨_, rfl⟩
  rw [← hA] at t0 ⊢
  have VA : Hid (V.heap.size = A) := hA.symm
  have T0 : Hid (_) := t0
  clear z t0 hA
  rw [show A + 1 + 1 = A + 2 from rfl]
  go_loopw [8] (fun x W => ∃ k : Nat, k ≤ 16 ∧ x = .int .i64 k ∧ TuT A k m b V W) (fun x _ => 16 - (intOf x).toNat)
  case atStart => exact ⟨0, by omega, rfl, T0.out⟩
  case round =>
    obtain ⟨k, hk, rfl, kt⟩ := hrel
    clear T0
    by_cases hlt : k < 16
    · have i1 : (k : Int) < 16 := by omega
      have HL : Hid (k < 16) := hlt
      have hm := HM.out
      obtain ⟨p4, h4⟩ : ∃ x, k % 4 = x := ⟨_, rfl⟩
      obtain ⟨p5, h5⟩ : ∃ x, 4 * m = x := ⟨_, rfl⟩
      obtain ⟨p6, h6⟩ : ∃ x, p5 * p4 = x := ⟨_, rfl⟩
      obtain ⟨p7, h7⟩ : ∃ x, k + p6 = x := ⟨_, rfl⟩
      obtain ⟨p, hp⟩ : ∃ x, p7 % 16 = x := ⟨_, rfl⟩
      have b6 : p6 ≤ 36 := by rw [← h6]; exact Nat.mul_le_mul (show p5 ≤ 12 by omega) (show p4 ≤ 3 by omega)
      have e4 : (k : Int).tmod 4 = p4 := by rw [Int.tmod_eq_emod_of_nonneg (by omega)]; omega
      have e5 : 4 * (m : Int) = p5 := by omega
      have e6 : (p5 : Int) * p4 = p6 := by rw [← h6]; exact (Int.natCast_mul _ _).symm
      have e7 : (k : Int) + p6 = p7 := by omega
      have e8 : (p7 : Int).tmod 16 = p := by rw [Int.tmod_eq_emod_of_nonneg (by omega)]; omega
      have l4 : (p4 : Int) < 4 := by omega
      have l5 : (p5 : Int) < 16 := by omega
      have l6 : (p6 : Int) < 37 := by omega
      have l7 : (p7 : Int) < 64 := by omega
      have l8 : (p : Int) < 16 := by omega
      have w5 : IntKind.i64.wrap (4 * (m : Int)) = p5 := by rw [e5]; exact wrap_i64_nat (by omega)
      have w6 : IntKind.i64.wrap ((p5 : Int) * p4) = p6 := by rw [e6]; exact wrap_i64_nat (by omega)
      obtain ⟨y, hy⟩ : ∃ y, b p = y := ⟨_, rfl⟩
      have hq : turnB m b k = y := by
        unfold turnB
        rw [h4, h5, h6, h7, hp, hy]
      have c1 : wr.cell? ⟨A, p, none⟩ = some (.int .u8 y) := by rw [cellN kt.s (by omega), hy]
      have c2 : wr.cell? ⟨A + 2, k, none⟩ = some (.int .u8 (uptoC (turnB m b) k k)) := cellN kt.o hlt
      have c3 : wr.frozen? ⟨A + 2, k, none⟩ = false := frozen4 kt.o
      have KT2 : Hid (TuT A (k + 1) m b V (wr.setCell ⟨A + 2, k, none⟩ (.int .u8 y))) := by
        refine ⟨?_, ?_, ?_, kt.bel.setCell (by simp) _⟩
        · rw [heap4o _ kt.o (by omega)]; exact kt.s
        · rw [heap4o _ kt.o (by omega)]; exact kt.r
        · rw [heap4 _ kt.o, bA_set, ← hq, updN_upto]
      clear hk kt hy hq h4 h5 h6 h7 hp hm b6 e6 e5
      go_wp2
      go_roundw
      case rel => exact ⟨k + 1, by have := HL.out; omega, by go_num, KT2.out⟩
      case measure => have := HL.out; simp [intOf]; omega
    · have i1 : ¬ (k : Int) < 16 := by omega
      have ek : k = 16 := by omega
      subst ek
      have G : Hid (wr.heap[A + 2]? = some (.cells (bA 16 (turnB m b)) 55)) := by
        have h := kt.o
        rw [bA_congr (g := turnB m b) (fun j hj => by unfold uptoC; rw [if_pos hj])] at h
        exact h
      go_wp2_with (first
        | (refine atLoad 55 (.tmp 5) rfl ?_; go_must (refine wpList_load_row rfl 55 (.tmp 5) rfl (A + 2) rfl 55 _ (0, 0) _ G.out Try.underlying55 rfl (size16 _) ?_; simp only [Act.put, List.setIfInBounds_toArray, List.set_cons_succ, List.set_cons_zero]))
        | (refine atStore 55 (.tmp 4) (.tmp 25) rfl ?_; go_must (refine wpList_store_row rfl 55 (.tmp 4) (.tmp 25) rfl (A + 1) _ rfl rfl 55 _ kt.r (size16 _) rfl (bA_one _ _) ?_)))
      refine bodyPost_ret (v := .agg (bA 16 (turnB m b))) (results_cell_row Try.results51 _ _ (A + 1) 55 _ (0, 0) _ rfl (setRow_heap _ _ _ _ _ _ kt.r) Try.underlying55 rfl (size16 _)) rfl ⟨rfl, ?_⟩
      rw [VA.out]
      exact below4 kt.bel (by omega) _
end Go.Proofs.Ytmfaapbhehhlpaa.Aes
