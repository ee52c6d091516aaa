import Derived.Test.YtmfaapbhehhlpaaO1
import Derived.OwnWalk
import Derived.Laws.IdiomCopy
import Derived.Lib.SliceRun
namespace Go.Proofs.Ytmfaapbhehhlpaa.Cel
open Go.RowKit Gf8 Aes By8
/- The reference's Cut and Open. -/

theorem piece {W : World} {b off len cap l m : Nat} {c : Nat → Nat} (h : SliceN W (.slice (some ⟨b, off, none⟩) len cap) len c) (hm : l + m ≤ len) : SliceN W (.slice (some ⟨b, off + l, none⟩) m (cap - l)) m fun j => c (l + j) := by
  obtain ⟨a', cap', e, h1, h2, h3⟩ := h.shape
  injection e with e1 e2 e3
  subst e3
  refine ⟨⟨_, _, rfl, by omega, by omega, fun h0 => ?_⟩, fun j hj => h.bytes _ (by omega)⟩
  obtain ⟨b', off', e4, hb, hc⟩ := h3 (by omega)
  rw [← e1] at e4
  injection e4 with e4
  injection e4 with e5 e6
  subst e5 e6
  exact ⟨b, off + l, rfl, hb, fun j hj => by rw [Nat.add_assoc]; exact hc _ (by omega)⟩

end Go.Proofs.Ytmfaapbhehhlpaa.Cel

namespace Go.Proofs.Ytmfaapbhehhlpaa.Cel
open Go.RowKit Gf8 Aes By8
/- The program's helpers of layer 5: copy of any list, filled, noughts, bytes.Clone. -/

set_option maxRecDepth 20000 in
/-- copy of any list into a row, room enough. -/
theorem execCopyZ {o : Oper} {a : Act} {w : World} {x y : Operand} {O off n c m N : Nat} {v : Value} {f p : Nat → Nat} {t : TypeId} (ho : o.op = .call { callee := .builtin .copy, args := #[x, y], argTypes := #[31, 31] })
    (hx : a.eval x = .slice (some ⟨O, off, none⟩) n c) (hy : a.eval y = v) (hv : SliceN w v m p) (hO : w.heap[O]? = some (.cells (bA N f) t)) (hmn : m ≤ n) (hN : off + n ≤ N) :
    (execOp a.eval o).run Try.prog w = .ok (.value (.int .i64 (m : Int))) (w.setRow O (bA N (spl f off m p))) := by
  obtain ⟨⟨ad, cap, rfl, hc1, hc2, hc3⟩, hp⟩ := hv
  by_cases h0 : m = 0
  · subst h0
    have h := run_copy_none (P := Try.prog) w 31 31 o.type 5 (some ⟨O, off, none⟩) ad n c 0 cap Try.underlying31 (by kernel_rfl) (by simp)
    have e : bA N (spl f off 0 p) = bA N f := by
      congr 1
      funext i
      unfold spl
      rw [if_neg (by omega)]
    rw [e, setRow_self w O _ t _ hO]
    unfold execOp
    simp only [ho, resolve, invoke, builtin, Sem.run_bind, Sem.run_pure, Result.andThen_ok, List.map_toArray, List.map_cons, List.map_nil, hx, hy, h]
    rfl
  · obtain ⟨b, of, rfl, hb, hc⟩ := hc3 (by omega)
    have hmin : Nat.min m n = m := Nat.min_eq_left hmn
    have h := execCopyB (cs := bytesL m p) ho hx hy hO (by rw [bytesL_len, hmin]) ?_ (by rw [bytesL_len, bA_size]; omega) (bytesL_one m p)
    · rw [bytesL_len, bA_splice N off m f p (by omega)] at h
      exact h
    · intro j u hj
      have hjc : j < m := by have := (List.getElem?_eq_some_iff.1 hj).1; rwa [bytesL_len] at this
      rw [bytesL_at m _ hjc] at hj
      rw [Addr.add_mid, ← hj]
      exact hc j hjc
/-- A list that lies elsewhere stays. -/
theorem SliceN.row {w V : World} {v : Value} {m : Nat} {p : Nat → Nat} (h : SliceN V v m p) (hb : Below V.heap.size V w) : SliceN w v m p := h.on hb
theorem belRow {V w : World} {O : Nat} (h : Below V.heap.size V w) (hO : V.heap.size ≤ O) (c : Array Value) : Below V.heap.size V (w.setRow O c) := below4 h hO c
/-- What is filled. -/
theorem spl_cell (hl len : Nat) (h p : Nat → Nat) : bA 320 (spl (spl (fun _ => 0) 0 hl h) hl len p) = bA 320 (cellF hl h len p) := by
  congr 1
  funext i
  unfold spl cellF
  by_cases h1 : i < hl
  · rw [if_neg (by omega), if_pos (by omega), if_pos h1, Nat.sub_zero]
  · rw [if_neg h1]
    by_cases h2 : i < hl + len
    · rw [if_pos (by omega), if_pos h2]
    · rw [if_neg (by omega), if_neg (by omega), if_neg h2]
set_option maxRecDepth 20000 in
set_option maxHeartbeats 400000 in
theorem filled_any (hl len : Nat) (h p : Nat → Nat) (u v : Value) (V : World) (hu : SliceN V u hl h) (hv : SliceN V v len p) (h2 : hl ≤ 2) (hs : hl + len ≤ 320) :
    Calls Try.prog 42 #[u, v] V fun e w' => ∃ r, e = .returned r ∧ w'.ownsRow V.heap.size 5 1 r 320 (bytesL 320 (cellF hl h len p)) ∧ Below V.heap.size V w' := by
  have HU : Hid (SliceN V u hl h) := hu
  have HV : Hid (SliceN V v len p) := hv
  have HS : Hid (hl ≤ 2 ∧ hl + len ≤ 320) := ⟨h2, hs⟩
  have r1 : (V.alloc (.cells (bA 320 fun _ => 0) 5)).heap[V.heap.size]? = some (.cells (bA 320 fun _ => 0) 5) := heapNew V _
  have r2 := setRow_heap _ _ _ (bA 320 (spl (fun _ => 0) 0 hl h)) _ _ r1
  have r3 := setRow_heap _ _ _ (bA 320 (spl (spl (fun _ => 0) 0 hl h) hl len p)) _ _ r2
  have b1 : Below V.heap.size V (V.alloc (.cells (bA 320 fun _ => 0) 5)) := belNew V _
  have b2 := belRow b1 (Nat.le_refl _) (bA 320 (spl (fun _ => 0) 0 hl h))
  have b3 := belRow b2 (Nat.le_refl _) (bA 320 (spl (spl (fun _ => 0) 0 hl h) hl len p))
  have R : Hid (_ ∧ _ ∧ _) := ⟨r1, r2, r3⟩
  have B : Hid (_ ∧ _ ∧ _) := ⟨b1, b2, b3⟩
  have sl : sliced (some ⟨V.heap.size, 0, none⟩) hl 320 320 1 = .slice (some ⟨V.heap.size, hl, none⟩) (320 - hl) (320 - hl) := by
    unfold sliced
    rw [if_neg (by omega)]
    simp [Addr.add_mid]
  have sg := fun W => By8.slice_l (some ⟨V.heap.size, 0, none⟩) 320 320 hl (by omega) W
  rw [sl] at sg
  clear hu hv h2 hs r1 r2 r3 b1 b2 b3 sl
  go_enter Try.func42, Try.ntmps42
  go_wp2_with (first
    | (refine wpList_ex rfl (execMk (l := 320) (n := 320) rfl rfl rfl (Nat.le_refl _) (by decide)) ?_)
    | (refine wpList_ex rfl (execCopyZ (x := .tmp 8) (y := .tmp 9) rfl rfl rfl (HU.out.on B.out.1) R.out.1 (by have := HS.out; omega) (by omega)) ?_)
    | (refine wpList_ex rfl (execCopyZ (x := .tmp 11) (y := .tmp 12) rfl rfl rfl (HV.out.on B.out.2.1) R.out.2.1 (by have := HS.out; omega) (by have := HS.out; omega)) ?_))
  go_ret
  refine ⟨_, rfl, ?_, B.out.2.2⟩
  exact own_full (n := 320) (by rw [← spl_cell]; exact R.out.2.2) (Nat.le_refl _) (by omega)

end Go.Proofs.Ytmfaapbhehhlpaa.Cel

namespace Go.Proofs.Ytmfaapbhehhlpaa.Cel
open Go.RowKit Gf8 Aes By8
/- The program's layer 5. -/

/-- No head. -/
theorem no_head (V : World) : SliceN V (.slice none 0 0) 0 headO := ⟨⟨none, 0, rfl, Nat.le_refl _, by omega, fun h => by omega⟩, fun j h => by omega⟩
set_option maxRecDepth 20000 in
theorem pad_any (p : Nat → Nat) (len : Nat) (v : Value) (V : World) (hv : SliceZ V v len p) (hl : len ≤ 140737488351232) :
    Calls Try.prog 34 #[v] V fun e w' => ∃ r, e = .returned (.tuple #[r, .int .i64 (okE 320 len : Nat)]) ∧ w'.ownsRow V.heap.size 5 1 r (okN 320 len) (bytesL (okN 320 len) (cellF 0 headO len p)) ∧ Below V.heap.size V w' := by
  have HV : Hid (SliceZ V v len p) := hv
  obtain ⟨ao, cap, rfl⟩ := hv.shape
  have lb : (len : Int) ≤ 140737488351232 := by omega
  clear hv
  by_cases h : len ≤ 320
  · have i1 : ¬ (len : Int) > 320 := by omega
    rw [show okN 320 len = 320 from if_pos h, show okE 320 len = 0 from if_pos h]
    go_enter Try.func34, Try.ntmps34
    go_wp2_with (go_at_call 42; refine (filled_any 0 len headO p _ _ V (no_head V) HV.out.sl (by omega) (by omega)).mono ?_; rintro e w1 ⟨r, rfl, own, hb1⟩)
    refine bodyPost_ret (results_tmp2 rfl _ _ _) rfl ⟨_, rfl, own, hb1⟩
  · have i1 : (len : Int) > 320 := by omega
    rw [show okN 320 len = 0 from if_neg h, show okE 320 len = 1 from if_neg h]
    go_enter Try.func34, Try.ntmps34
    go_wp2
    refine bodyPost_ret (results_tmp2 rfl _ _ _) rfl ⟨_, rfl, World.ownsRow_nil _ _ _ _, Below.refl _ _⟩
theorem head1_slice (V : World) (x : Nat) (h : Nat → Nat) (h0 : h 0 = x) (b0 : x < 256) : SliceN (V.alloc (.cells #[.int .u8 x] 5)) (.slice (some ⟨V.heap.size, 0, none⟩) 1 1) 1 h := by
  refine ⟨⟨_, _, rfl, Nat.le_refl _, by omega, fun _ => ⟨V.heap.size, 0, rfl, by simp, fun j hj => ?_⟩⟩, fun j hj => ?_⟩
  · rw [cell_of_row _ _ _ _ _ _ (heapNew V _), Nat.zero_add]
    match j, hj with
    | 0, _ => rw [h0]; rfl
  · match j, hj with
    | 0, _ => rw [h0]; exact b0
set_option maxRecDepth 20000 in
theorem noise_any (p : Nat → Nat) (len : Nat) (v : Value) (V : World) (hv : SliceZ V v len p) (hl : len ≤ 140737488351232) :
    Calls Try.prog 35 #[v] V fun e w' => ∃ r, e = .returned (.tuple #[r, .int .i64 (okE 319 len : Nat)]) ∧ w'.ownsRow V.heap.size 5 1 r (okN 319 len) (bytesL (okN 319 len) (cellF 1 headO len p)) ∧ Below V.heap.size V w' := by
  have HV : Hid (SliceZ V v len p) := hv
  obtain ⟨ao, cap, rfl⟩ := hv.shape
  have lb : (len : Int) ≤ 140737488351232 := by omega
  clear hv
  by_cases h : len ≤ 319
  · have i1 : ¬ (len : Int) > 319 := by omega
    have HH : Hid (len ≤ 319) := h
    rw [show okN 319 len = 320 from if_pos h, show okE 319 len = 0 from if_pos h]
    clear h
    go_enter Try.func35, Try.ntmps35
    go_wp2_with (go_at_call 42; refine (filled_any 1 len headO p _ _ _ (head1_slice V 0 headO rfl (by omega)) (HV.out.sl.on (belNew V _)) (by omega) (by have := HH.out; omega)).mono ?_; rintro e w1 ⟨r, rfl, own, hb1⟩)
    refine bodyPost_ret (results_tmp2 rfl _ _ _) rfl ⟨_, rfl, own_base own (by simp), (belNew V _).trans (hb1.mono (by simp))⟩
  · have i1 : (len : Int) > 319 := by omega
    rw [show okN 319 len = 0 from if_neg h, show okE 319 len = 1 from if_neg h]
    go_enter Try.func35, Try.ntmps35
    go_wp2
    refine bodyPost_ret (results_tmp2 rfl _ _ _) rfl ⟨_, rfl, World.ownsRow_nil _ _ _ _, Below.refl _ _⟩
end Go.Proofs.Ytmfaapbhehhlpaa.Cel
