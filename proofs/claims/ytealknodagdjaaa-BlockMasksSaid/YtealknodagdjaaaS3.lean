import Derived.Test.YtealknodagdjaaaS2
namespace Go.Proofs.Ytealknodagdjaaa.Gf8
open Go.RowKit

/-- a byte turned to the left. -/
def rot (a k : Nat) : Nat := (a * 2 ^ k % 256) ||| (a / 2 ^ (8 - k))
theorem rot_lt {a k : Nat} (ha : a < 256) : rot a k < 256 := Nat.or_lt_two_pow (n := 8) (Nat.mod_lt _ (by omega)) (Nat.lt_of_le_of_lt (Nat.div_le_self _ _) ha)
theorem and7 : ∀ k : Fin 8, bits .and .u64 ((k.val : Nat) : Int) 7 = ((k.val : Nat) : Int) := by decide +kernel
set_option maxRecDepth 20000 in
theorem rot_any (a k : Nat) (w : World) (ha : a < 256) (hk : k < 8) :
    Calls Try.prog 51 #[.int .u8 a, .int .i64 k] w fun e w' => e = .returned (.int .u8 (rot a k : Nat)) ∧ w' = w := by
  have r1 : IntKind.u64.wrap (k : Int) = (k : Int) := by simp only [IntKind.wrap, IntKind.bits, IntKind.signed]; simp; omega
  have r2 : bits .and .u64 (k : Int) 7 = (k : Int) := and7 ⟨k, hk⟩
  go_enter Try.func51, Try.ntmps51
  go_wp2
  go_ret
  refine ⟨congrArg (fun x => Ending.returned (Value.int .u8 x)) ?_, rfl⟩
  rw [show ((a : Int) * 2 ^ k % 256) = ((a * 2 ^ k % 256 : Nat) : Int) by simp, show ((a : Int) / 2 ^ (8 - k)) = ((a / 2 ^ (8 - k) : Nat) : Int) by simp,
    or_u8 (Nat.mod_lt _ (by omega)) (Nat.lt_of_le_of_lt (Nat.div_le_self _ _) ha)]
  rfl

theorem sub_turns : ∀ a : Fin 256, rot (ginv a.val) 0 ^^^ rot (ginv a.val) 1 ^^^ rot (ginv a.val) 2 ^^^ rot (ginv a.val) 3 ^^^ rot (ginv a.val) 4 ^^^ 99 = gsub a.val := by decide +kernel
theorem uns_turns : ∀ a : Fin 256, ginv (rot a.val 1 ^^^ rot a.val 3 ^^^ rot a.val 6 ^^^ 5) = guns a.val := by decide +kernel
/-- The sum of the first n turns. -/
def rots (a : Nat) (ks : Nat → Nat) : Nat → Nat
  | 0 => 0
  | n + 1 => rots a ks n ^^^ rot a (ks n)
theorem rots_lt {a : Nat} (ha : a < 256) (ks : Nat → Nat) (n : Nat) : rots a ks n < 256 := by
  induction n with
  | zero => exact (by decide : (0 : Nat) < 256)
  | succ n ih => exact xor_lt ih (rot_lt ha)

set_option maxRecDepth 20000 in
set_option maxHeartbeats 400000 in
theorem turns_any (a b n : Nat) (ks : Nat → Nat) (w : World) (ha : a < 256) (hn : n < 256) (hk : ∀ i, i < n → ks i < 8) (hc : ∀ i, i < n → w.cell? ⟨b, i, none⟩ = some (.int .i64 (ks i))) :
    Calls Try.prog 44 #[.int .u8 a, .slice (some ⟨b, 0, none⟩) n n] w fun e w' => e = .returned (.int .u8 (rots a ks n : Nat)) ∧ w' = w := by
  have HK : Hid (_) := hk
  have HC : Hid (_) := hc
  clear hk hc
  go_enter Try.func44, Try.ntmps44
  go_wp2
  go_loopw [5, 10] (fun s i W => ∃ k : Nat, k ≤ n ∧ s = .int .u8 (rots a ks k : Nat) ∧ i = .int .i64 k ∧ W = w) (fun _ i _ => n - (intOf i).toNat)
  case atStart => exact ⟨0, by omega, rfl, rfl, rfl⟩
  case round =>
    obtain ⟨k, hk, rfl, rfl, rfl⟩ := hrel
    by_cases hlt : k < n
    · have i1 : (k : Int) < n := by omega
      have i0 : (0 : Int) ≤ (k : Int) := by omega
      have c1 := HC.out k hlt
      have m1 := HK.out k hlt
      obtain ⟨r, hr⟩ : ∃ r, ks k = r := ⟨_, rfl⟩
      rw [hr] at c1 m1
      have q : Hid (bits .xor .u8 ((rots a ks k : Nat) : Int) ((rot a r : Nat) : Int) = ((rots a ks (k + 1) : Nat) : Int)) := by
        show bits .xor .u8 ((rots a ks k : Nat) : Int) ((rot a r : Nat) : Int) = ((rots a ks (k + 1) : Nat) : Int)
        rw [xor_u8 (rots_lt ha ks k) (rot_lt ha), ← hr]
        rfl
      clear hr
      go_wp2_with (go_at_call 51; refine (rot_any a r _ ha m1).mono ?_; rintro e w' ⟨rfl, rfl⟩)
      go_roundw
      case rel => exact ⟨k + 1, by omega, by rw [q.out], by go_num, trivial⟩
      case measure => simp [intOf]; omega
    · have i1 : ¬ (k : Int) < n := by omega
      have ek : k = n := by omega
      subst ek
      go_wp2
      go_ret
      exact ⟨rfl, rfl⟩

theorem alloc_cell (w : World) {A : Array Value} {t : TypeId} {i : Nat} {v : Value} (h : A[i]? = some v) : (w.alloc (.cells A t)).cell? ⟨w.heap.size, i, none⟩ = some v := by
  rw [cell_of_row _ _ _ A t (0, 0) (by show (w.heap.push _)[w.heap.size]? = _; rw [Array.getElem?_push_size])]
  exact h
def ksub : Nat → Nat := fun i => i
def kuns : Nat → Nat := fun i => [1, 3, 6].getD i 0
theorem ksub_at : ∀ i, i < 5 → ksub i < 8 ∧ (#[Value.int IntKind.i64 0, Value.int IntKind.i64 1, Value.int IntKind.i64 2, Value.int IntKind.i64 3, Value.int IntKind.i64 4] : Array Value)[i]? = some (.int .i64 (ksub i)) := by
  intro i hi
  have : i = 0 ∨ i = 1 ∨ i = 2 ∨ i = 3 ∨ i = 4 := by omega
  rcases this with rfl | rfl | rfl | rfl | rfl <;> exact ⟨by decide, rfl⟩
theorem kuns_at : ∀ i, i < 3 → kuns i < 8 ∧ (#[Value.int IntKind.i64 1, Value.int IntKind.i64 3, Value.int IntKind.i64 6] : Array Value)[i]? = some (.int .i64 (kuns i)) := by
  intro i hi
  have : i = 0 ∨ i = 1 ∨ i = 2 := by omega
  rcases this with rfl | rfl | rfl <;> exact ⟨by decide, rfl⟩
theorem rots_sub {a : Nat} (ha : a < 256) : rots (ginv a) ksub 5 ^^^ 99 = gsub a := by
  rw [← sub_turns ⟨a, ha⟩]
  show ((((0 ^^^ rot (ginv a) 0) ^^^ rot (ginv a) 1) ^^^ rot (ginv a) 2) ^^^ rot (ginv a) 3) ^^^ rot (ginv a) 4 ^^^ 99 = _
  rw [Nat.zero_xor]
theorem rots_uns {a : Nat} (ha : a < 256) : ginv (rots a kuns 3 ^^^ 5) = guns a := by
  rw [← uns_turns ⟨a, ha⟩]
  show ginv (((0 ^^^ rot a 1) ^^^ rot a 3) ^^^ rot a 6 ^^^ 5) = _
  rw [Nat.zero_xor]

set_option maxRecDepth 20000 in
set_option maxHeartbeats 400000 in
theorem sub_any (a : Nat) (w : World) (ha : a < 256) :
    Calls Try.prog 27 #[.int .u8 a] w fun e w' => e = .returned (.int .u8 (gsub a : Nat)) ∧ Below w.heap.size w w' := by
  have q : Hid (bits .xor .u8 ((rots (ginv a) ksub 5 : Nat) : Int) 99 = ((gsub a : Nat) : Int)) := by
    show bits .xor .u8 ((rots (ginv a) ksub 5 : Nat) : Int) ((99 : Nat) : Int) = ((gsub a : Nat) : Int)
    rw [xor_u8 (rots_lt (ginv_lt ha) _ _) (by omega), rots_sub ha]
  have HG : Hid (ginv a < 256) := ginv_lt ha
  go_enter Try.func27, Try.ntmps27
  go_wp2_with (first
    | (go_at_call 45; refine (inv_any a _ ha).mono ?_; rintro e w' ⟨rfl, rfl⟩)
    | (go_at_call 44; refine (turns_any (ginv a) w'.heap.size 5 ksub _ HG.out (by omega) (fun i hi => (ksub_at i hi).1) (fun i hi => alloc_cell w' (ksub_at i hi).2)).mono ?_; rintro e w'' ⟨rfl, rfl⟩))
  go_ret
  exact ⟨congrArg (fun x => Ending.returned (Value.int .u8 x)) q.out, (Below.refl _ _).alloc (Nat.le_refl _) _⟩

set_option maxRecDepth 20000 in
set_option maxHeartbeats 400000 in
theorem unsub_any (a : Nat) (w : World) (ha : a < 256) :
    Calls Try.prog 33 #[.int .u8 a] w fun e w' => e = .returned (.int .u8 (guns a : Nat)) ∧ Below w.heap.size w w' := by
  obtain ⟨x, hx⟩ : ∃ x, rots a kuns 3 ^^^ 5 = x := ⟨_, rfl⟩
  have hx1 : x < 256 := by rw [← hx]; exact xor_lt (rots_lt ha _ _) (by omega)
  have q : bits .xor .u8 ((rots a kuns 3 : Nat) : Int) 5 = (x : Int) := by
    show bits .xor .u8 ((rots a kuns 3 : Nat) : Int) ((5 : Nat) : Int) = (x : Int)
    rw [xor_u8 (rots_lt ha _ _) (by omega), hx]
  have r : Hid (ginv x = guns a) := by show ginv x = guns a; rw [← hx, rots_uns ha]
  clear hx
  go_enter Try.func33, Try.ntmps33
  go_wp2_with (first
    | (go_at_call 45; refine (inv_any x _ hx1).mono ?_; rintro e w' ⟨rfl, rfl⟩)
    | (go_at_call 44; refine (turns_any a w.heap.size 3 kuns _ ha (by omega) (fun i hi => (kuns_at i hi).1) (fun i hi => alloc_cell w (kuns_at i hi).2)).mono ?_; rintro e w'' ⟨rfl, rfl⟩))
  go_ret
  exact ⟨congrArg (fun x : Nat => Ending.returned (Value.int .u8 x)) r.out, (Below.refl _ _).alloc (Nat.le_refl _) _⟩
end Go.Proofs.Ytealknodagdjaaa.Gf8
