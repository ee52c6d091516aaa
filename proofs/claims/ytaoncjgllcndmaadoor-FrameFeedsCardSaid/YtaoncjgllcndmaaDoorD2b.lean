import Derived.Test.YtaoncjgllcndmaaDoorD2a
import Derived.Test.YtaoncjgllcndmaaDoorK7
import Derived.Test.YtaoncjgllcndmaaDoorL3
import Derived.Test.YtaoncjgllcndmaaDoorY3
import Derived.Test.YtaoncjgllcndmaaDoorY6a
import Derived.Test.YtaoncjgllcndmaaDoorC2
import Derived.Test.YtaoncjgllcndmaaDoorD7
import Derived.Deep.QuietTactic
namespace Go.Proofs.YtaoncjgllcndmaaDoor.Frm
open Go.RowKit Gf8 Aes By8 Cel
/- The program's frame: numbers and sums. -/

theorem ofInt_u64 {a : Nat} (ha : a < 18446744073709551616) : (BitVec.ofInt 64 (a : Int)).toNat = a := by
  rw [BitVec.ofInt_natCast, BitVec.toNat_ofNat]; exact Nat.mod_eq_of_lt (by omega)
theorem wrap_u64_nat {n : Nat} (h : n < 18446744073709551616) : IntKind.u64.wrap (n : Int) = n := by simp [IntKind.wrap, IntKind.bits, IntKind.signed]; omega
theorem or_u64 {a b : Nat} (ha : a < 18446744073709551616) (hb : b < 18446744073709551616) : bits .or .u64 (a : Int) (b : Int) = ((a ||| b : Nat) : Int) := by
  show IntKind.u64.wrap ((BitVec.ofInt 64 (a : Int) ||| BitVec.ofInt 64 (b : Int)).toNat : Int) = _
  rw [BitVec.toNat_or, ofInt_u64 ha, ofInt_u64 hb, wrap_u64_nat (Nat.or_lt_two_pow (n := 64) ha hb)]
theorem or_add8 (a b : Nat) (hb : b < 256) : a * 256 ||| b = a * 256 + b := by
  have := Nat.shiftLeft_add_eq_or_of_lt (i := 8) hb a
  rw [Nat.shiftLeft_eq] at this
  exact this.symm
theorem or_add16 (a b : Nat) (hb : b < 65536) : a * 65536 ||| b = a * 65536 + b := by
  have := Nat.shiftLeft_add_eq_or_of_lt (i := 16) hb a
  rw [Nat.shiftLeft_eq] at this
  exact this.symm
set_option maxRecDepth 20000 in
theorem pnumber_any (p : Nat → Nat) (len : Nat) (v : Value) (V : World) (hv : SliceN V v len p) (hl : len ≤ 8) :
    Calls Tryd.prog 51 #[v] V fun e w' => e = .returned (.int .u64 (nb p len : Nat)) ∧ w' = V := by
  obtain ⟨⟨ad, cap, rfl, hc1, hc2, hc3⟩, hp⟩ := hv
  have HC : Hid (0 < len → ∃ b off, ad = some ⟨b, off, none⟩ ∧ b < V.heap.size ∧ ∀ j, j < len → V.cell? ⟨b, off + j, none⟩ = some (.int .u8 (p j))) := hc3
  have HP : Hid (∀ j, j < len → p j < 256) := hp
  have HL : Hid (len ≤ 8) := hl
  have lb : (len : Int) ≤ 8 := by omega
  clear hc1 hc2 hc3 hl hp
  go_enter Tryd.func51, Tryd.ntmps51
  go_wp2_with fail
  go_loopw [3, 8] (fun x z W => ∃ i : Nat, i ≤ len ∧ x = .int .u64 (nb p i : Nat) ∧ z = .int .i64 i ∧ W = V) (fun _ z _ => len - (intOf z).toNat)
  case atStart => exact ⟨0, Nat.zero_le _, rfl, rfl, rfl⟩
  case round =>
    obtain ⟨i, hi, rfl, rfl, rfl⟩ := hrel
    by_cases hlt : i < len
    · have i1 : (i : Int) < len := by omega
      obtain ⟨b, off, rfl, _, hc⟩ := HC.out (by omega)
      have l3 := HP.out i hlt
      have l4 : nb p i < 256 ^ 7 := Nat.lt_of_lt_of_le (nb_lt fun j hj => HP.out j (by omega)) (Nat.pow_le_pow_right (by decide) (by have := HL.out; omega))
      have e7 : (256 : Nat) ^ 7 = 72057594037927936 := by decide
      rw [e7] at l4
      obtain ⟨c, hc0⟩ : ∃ c, p i = c := ⟨_, rfl⟩
      obtain ⟨A, hA⟩ : ∃ A, nb p i = A := ⟨_, rfl⟩
      have c1 : wr.cell? ⟨b, off + i, none⟩ = some (.int .u8 c) := by rw [hc i hlt, hc0]
      rw [hA] at l4
      rw [hc0] at l3
      rw [hA]
      have j1 : (A : Int) < 72057594037927936 := by omega
      have j3 : (c : Int) < 256 := by omega
      have HA : Hid (nb p (i + 1) = A * 256 + c) := by
        show nb p (i + 1) = _
        rw [nb, hA, hc0]
      have HK : Hid (i < len) := hlt
      have OR : bits .or .u64 ((A : Int) * 256) (c : Int) = ((A * 256 + c : Nat) : Int) := by
        have := or_u64 (a := A * 256) (b := c) (by omega) (by omega)
        rw [or_add8 _ _ l3] at this
        rw [← this]
        simp
      clear hc l3 l4 hc0 hA hlt hi e7
      go_wp2
      go_roundw
      case rel =>
        refine ⟨i + 1, HK.out, ?_, by go_num, by first | rfl | trivial⟩
        rw [HA.out]
        first | rw [OR] | go_num
      case measure => have := HK.out; simp [intOf]; omega
    · have ei : i = len := by omega
      subst ei
      have i1 : ¬ (i : Int) < i := by omega
      go_wp2
      go_ret
      exact ⟨rfl, rfl⟩
/-- The two sums as a value. -/
def smV (a b : Nat) : Value := .agg #[.int .u32 a, .int .u32 b]
set_option maxRecDepth 20000 in
theorem snumber_any (a b : Nat) (V : World) (ha : a < 65521) (hb : b < 65521) :
    Calls Tryd.prog 43 #[smV a b] V fun e w' => e = .returned (.int .u64 (b * 65536 + a : Nat)) ∧ Below V.heap.size V w' := by
  have j1 : (a : Int) < 65521 := by omega
  have j2 : (b : Int) < 65521 := by omega
  have OR : bits .or .u64 ((b : Int) * 65536) (a : Int) = ((b * 65536 + a : Nat) : Int) := by
    have := or_u64 (a := b * 65536) (b := a) (by omega) (by omega)
    rw [or_add16 _ _ (by omega)] at this
    rw [← this]
    simp
  unfold smV
  have HB : Hid (Below V.heap.size V (V.alloc (.cells #[.int .u32 a, .int .u32 b] 72))) := belNew _ _
  clear ha hb
  go_enter Tryd.func43, Tryd.ntmps43
  go_wp2
  go_ret
  refine ⟨?_, HB.out⟩
  first | rw [OR] | go_num
/-- Two sums in a row. -/
def sm2 (a b : Int) : Array Value := #[.int .u32 a, .int .u32 b]
theorem cell2 {W : World} {R : Nat} {a b : Int} {t : TypeId} (h : W.heap[R]? = some (.cells (sm2 a b) t)) : W.cell? ⟨R, 0, none⟩ = some (.int .u32 a) ∧ W.cell? ⟨R, 1, none⟩ = some (.int .u32 b) := by
  constructor
  · rw [cell_of_row _ _ _ _ _ _ h]; rfl
  · rw [cell_of_row _ _ _ _ _ _ h]; rfl
theorem zeroS : ∀ w, (zeroValue 72).run Tryd.prog w = .ok (.agg (sm2 0 0)) w := by
  intro w
  simp [go_sem, sm2]
theorem sizeS (a b : Int) : (Tryd.prog.info? 72).map (·.size) = some (sm2 a b).size := by
  show _ = some 2
  kernel_rfl
theorem sm2_one (a b : Int) : (sm2 a b).all (·.oneCell') = true := by simp [sm2, Value.oneCell']
set_option maxRecDepth 20000 in
set_option maxHeartbeats 400000 in
theorem nobytes_any (V : World) : Calls Tryd.prog 32 #[] V fun e w' => e = .returned (smV 1 0) ∧ Below V.heap.size V w' := by
  have z := zeroS
  go_enter Tryd.func32, Tryd.ntmps32
  go_wp2_with (first
    | (refine atStore 72 (.tmp 0) (.tmp 1) rfl ?_; go_must (refine wpList_store_row rfl 72 (.tmp 0) (.tmp 1) rfl V.heap.size (sm2 1 0) rfl rfl 72 _ (heapNew V _) (sizeS _ _) rfl (sm2_one _ _) ?_)))
  refine bodyPost_ret (v := smV 1 0) (results_cell_row Tryd.results32 _ _ V.heap.size 72 _ (0, 0) _ rfl (setRow_heap _ _ _ _ _ _ (heapNew V _)) Tryd.underlying72 rfl (sizeS _ _)) rfl ⟨rfl, below4 (belNew V _) (Nat.le_refl _) _⟩
/-- What stands in over: the sums in block R, the answer in block R + 1. -/
structure OvR (R : Nat) (a b : Int) (V W : World) : Prop where
  s : W.heap[R]? = some (.cells (sm2 a b) 72)
  r : ∃ c d, W.heap[R + 1]? = some (.cells (sm2 c d) 72)
  bel : Below R V W
theorem OvR.set {R : Nat} {a b : Int} {V W : World} (h : OvR R a b V W) (c d : Int) : OvR R c d V (W.setRow R (sm2 c d)) := by
  obtain ⟨x, y, hr⟩ := h.r
  exact ⟨setRow_heap _ _ _ _ _ _ h.s, ⟨x, y, by rw [setRow_other _ _ _ _ (by omega)]; exact hr⟩, below4 h.bel (Nat.le_refl _) _⟩
set_option maxRecDepth 20000 in
set_option maxHeartbeats 400000 in
theorem over_any (q : Nat → Nat) (t len : Nat) (v : Value) (V : World) (hv : SliceN V v len fun j => q (t + j)) (hl : len ≤ 140737488351232) :
    Calls Tryd.prog 42 #[smV (adl q t).1 (adl q t).2, v] V fun e w' => e = .returned (smV (adl q (t + len)).1 (adl q (t + len)).2) ∧ Below V.heap.size V w' := by
  obtain ⟨⟨ad, cap, rfl, hc1, hc2, hc3⟩, hp⟩ := hv
  have HC : Hid (0 < len → ∃ b off, ad = some ⟨b, off, none⟩ ∧ b < V.heap.size ∧ ∀ j, j < len → V.cell? ⟨b, off + j, none⟩ = some (.int .u8 (q (t + j)))) := hc3
  have HP : Hid (∀ j, j < len → q (t + j) < 256) := hp
  have HL : Hid (len ≤ 140737488351232) := hl
  have lb : (len : Int) ≤ 140737488351232 := by omega
  have z := zeroS
  obtain ⟨R, hR⟩ : ∃ R, V.heap.size = R := ⟨_, rfl⟩
  obtain ⟨W0, hW⟩ : ∃ W0, (V.alloc (.cells (sm2 (adl q t).1 (adl q t).2) 72)).alloc (.cells (sm2 0 0) 72) = W0 := ⟨_, rfl⟩
  have O0 : Hid (OvR R (adl q t).1 (adl q t).2 V W0) := by
    have h := heap2c V (.cells (sm2 (adl q t).1 (adl q t).2) 72) (.cells (sm2 0 0) 72)
    rw [hW, hR] at h
    refine ⟨h.1, ⟨_, _, h.2⟩, ?_⟩
    rw [← hW, ← hR]
    exact below2c _ _ _
  have HW : Hid ((V.alloc (.cells #[.int .u32 (adl q t).1, .int .u32 (adl q t).2] 72)).alloc (.cells (sm2 0 0) 72) = W0) := hW
  clear hc1 hc2 hc3 hl hp hW
  unfold smV
  go_enter Tryd.func42, Tryd.ntmps42
  go_wp2_with fail
  rw [HW.out]
  try simp only [hR]
  have HR : Hid (V.heap.size = R) := hR
  clear hR z HW
  go_loopw [9] (fun z W => ∃ i : Nat, i ≤ len ∧ z = .int .i64 i ∧ OvR R (adl q (t + i)).1 (adl q (t + i)).2 V W) (fun z _ => len - (intOf z).toNat)
  case atStart => exact ⟨0, Nat.zero_le _, rfl, O0.out⟩
  case round =>
    obtain ⟨i, hi, rfl, ov⟩ := hrel
    clear O0
    by_cases hlt : i < len
    · have i1 : (i : Int) < len := by omega
      obtain ⟨b, off, rfl, hbs, hc⟩ := HC.out (by omega)
      obtain ⟨l1, l2⟩ := adl_lt q (t + i)
      have l3 := HP.out i hlt
      obtain ⟨c, hc0⟩ : ∃ c, q (t + i) = c := ⟨_, rfl⟩
      obtain ⟨A, hA⟩ : ∃ A, (adl q (t + i)).1 = A := ⟨_, rfl⟩
      obtain ⟨B, hB⟩ : ∃ B, (adl q (t + i)).2 = B := ⟨_, rfl⟩
      have c1 : wr.cell? ⟨b, off + i, none⟩ = some (.int .u8 c) := by
        rw [cell_below ov.bel (by have := HR.out; omega), hc i hlt, hc0]
      rw [hA] at l1 ov
      rw [hB] at l2 ov
      rw [hc0] at l3
      have j1 : (A : Int) < 65521 := by omega
      have j2 : (B : Int) < 65521 := by omega
      have j3 : (c : Int) < 256 := by omega
      have HA : Hid (adl q (t + (i + 1)) = ((A + c) % 65521, (B + (A + c) % 65521) % 65521)) := by
        show adl q (t + (i + 1)) = _
        rw [← Nat.add_assoc, adl, hA, hB, hc0]
      have HK : Hid (i < len) := hlt
      have OV : Hid (OvR R A B V wr) := ov
      obtain ⟨k0, k1⟩ := cell2 ov.s
      have k2 : ∀ x : Int, (wr.setRow R (sm2 x B)).cell? ⟨R, 0, none⟩ = some (.int .u32 x) := fun x => (cell2 (ov.set x B).s).1
      have k3 : ∀ x : Int, (wr.setRow R (sm2 x B)).cell? ⟨R, 1, none⟩ = some (.int .u32 B) := fun x => (cell2 (ov.set x B).s).2
      clear hc l1 l2 l3 hc0 hA hB hlt hi ov hbs
      go_wp2_with (first
        | (refine atStore 70 (.tmp 19) (.tmp 18) rfl ?_; go_must (refine wpList_exS rfl (execStV (c' := sm2 _ _) rfl rfl rfl OV.out.s (by show 0 < 2; decide) (by kernel_rfl) rfl rfl) ?_))
        | (refine atStore 70 (.tmp 26) (.tmp 25) rfl ?_; go_must (refine wpList_exS rfl (execStV (c' := sm2 _ _) rfl rfl rfl (OV.out.set _ _).s (by show 1 < 2; decide) (by kernel_rfl) rfl rfl) ?_)))
      go_roundw
      case rel =>
        refine ⟨i + 1, HK.out, by go_num, ?_⟩
        rw [HA.out]
        have := (OV.out.set (((A : Int) + c) % 65521) B).set (((A : Int) + c) % 65521) (((B : Int) + ((A : Int) + c)) % 65521)
        have e1 : (((A + c) % 65521 : Nat) : Int) = ((A : Int) + c) % 65521 := by omega
        have e2 : (((B + (A + c) % 65521) % 65521 : Nat) : Int) = ((B : Int) + ((A : Int) + c)) % 65521 := by omega
        show OvR R (((A + c) % 65521 : Nat) : Int) (((B + (A + c) % 65521) % 65521 : Nat) : Int) V _
        rw [e1, e2]
        exact this
      case measure => have := HK.out; simp [intOf]; omega
    · have ei : i = len := by omega
      subst ei
      have i1 : ¬ (i : Int) < i := by omega
      have OV : Hid (OvR R (adl q (t + i)).1 (adl q (t + i)).2 V wr) := ov
      obtain ⟨x, y, hr⟩ := ov.r
      have RR : Hid (wr.heap[R + 1]? = some (.cells (sm2 x y) 72)) := hr
      clear hr ov
      go_wp2_with (first
        | (refine atLoad 72 (.tmp 2) rfl ?_; go_must (refine wpList_load_row rfl 72 (.tmp 2) rfl R rfl 72 _ (0, 0) _ OV.out.s Tryd.underlying72 rfl (sizeS _ _) ?_; simp only [Act.put, List.setIfInBounds_toArray, List.set_cons_succ, List.set_cons_zero]))
        | (refine atStore 72 (.tmp 4) (.tmp 28) rfl ?_; go_must (refine wpList_store_row rfl 72 (.tmp 4) (.tmp 28) rfl (R + 1) _ rfl rfl 72 _ RR.out (sizeS _ _) rfl (sm2_one _ _) ?_)))
      refine bodyPost_ret (v := smV (adl q (t + i)).1 (adl q (t + i)).2) (results_cell_row Tryd.results42 _ _ (R + 1) 72 _ (0, 0) _ rfl (setRow_heap _ _ _ _ _ _ RR.out) Tryd.underlying72 rfl (sizeS _ _)) rfl ⟨rfl, ?_⟩
      rw [HR.out]
      exact below4 OV.out.bel (by omega) _
end Go.Proofs.YtaoncjgllcndmaaDoor.Frm
