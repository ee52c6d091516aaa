import Derived.Test.YteekoabgbjbabaaGreatDoorO0
import Derived.OwnWalk
import Derived.Laws.IdiomCopy
import Derived.Lib.SliceRun
namespace Go.Proofs.YteekoabgbjbabaaGreatDoor.Cel
open Go.RowKit Gf8 Aes By8
/- The reference's functions of layer 5. -/

def lenV (v : Value) : Nat := match v with | .slice _ m _ => m | _ => 0
theorem cellF_in (len : Nat) (p : Nat → Nat) {j : Nat} (h : j < len) : cellF 0 headO len p j = p j := by
  unfold cellF
  rw [if_neg (by omega), if_pos (by omega)]
  rfl
theorem cellF_out (len : Nat) (p : Nat → Nat) {j : Nat} (h : ¬ j < len) : cellF 0 headO len p j = 0 := by
  unfold cellF
  rw [if_neg (by omega), if_neg (by omega)]

set_option maxRecDepth 20000 in
set_option maxHeartbeats 400000 in
theorem fill_any (p : Nat → Nat) (len : Nat) (v : Value) (V : World) (hv : SliceZ V v len p) (hl : len ≤ 320) :
    Calls Tryz.prog 24 #[v] V fun e w' => ∃ r, e = .returned r ∧ w'.ownsRow V.heap.size 5 1 r 320 (bytesL 320 (cellF 0 headO len p)) ∧ Below V.heap.size V w' := by
  have HV : Hid (SliceZ V v len p) := hv
  have HL : Hid (len ≤ 320) := hl
  obtain ⟨q, hq⟩ : ∃ q, cellF 0 headO len p = q := ⟨_, rfl⟩
  have HQ : Hid ((∀ j, j < len → p j = q (0 + j)) ∧ ∀ j, ¬ j < len → q j = 0) := by
    rw [← hq]
    exact ⟨fun j hj => by rw [Nat.zero_add, cellF_in len p hj], fun j hj => cellF_out len p hj⟩
  rw [hq]
  clear hq hv hl
  go_enter Tryz.func24, Tryz.ntmps24
  go_wp2_with (first
    | (refine atAppB (.tmp 4) (.tmp 5) rfl ?_; go_must (refine By8.wpList_appS (B := V.heap.size) (n := 0) (m := len) (p := q) rfl (.tmp 4) (.tmp 5) rfl rfl rfl (own_none V q) (sliceN_cg (HV.out.sl.on (belNew V _)) HQ.out.1) HV.out.nil (by have := HL.out; omega) (by simp) ?_; intro u1 W1 own1 gr1; have b1 : Below V.heap.size V W1 := below_grown (belNew V _) (by simp) (own_none V q) gr1; rw [Nat.zero_add] at own1; clear gr1)))
  have O1 : Hid (_) := own1
  have B1 : Hid (_) := b1
  clear own1 b1
  go_loopw [3] (fun u W => ∃ k : Nat, len ≤ k ∧ k ≤ 320 ∧ W.ownsRow V.heap.size 5 1 u k (bytesL k q) ∧ Below V.heap.size V W) (fun u _ => 320 - lenV u)
  case atStart => exact ⟨len, Nat.le_refl _, HL.out, O1.out, B1.out⟩
  case round =>
    obtain ⟨k, hk1, hk2, own, bel⟩ := hrel
    clear O1 B1
    obtain ⟨ao, cp, rfl⟩ := own_shapeJ own
    by_cases hlt : k < 320
    · have i1 : (k : Int) < 320 := by omega
      have HK : Hid (len ≤ k ∧ k < 320) := ⟨hk1, hlt⟩
      have OW : Hid (_) := own
      have BL : Hid (Below V.heap.size V wr) := bel
      clear own bel hk1 hk2 hlt
      go_wp2_with (refine atAppB (.tmp 10) (.tmp 11) rfl ?_; go_must (refine wpList_app1 (B := V.heap.size) (n := k) (g := wr.heap.size) (p := q) (w0 := V) rfl (.tmp 10) (.tmp 11) rfl rfl rfl (ownsRow_below OW.out (belNew wr _)) (by rw [HQ.out.2 k (by have := HK.out; omega)]; exact heapNew wr _) (by have := HK.out; omega) (BL.out.trans ((belNew wr _).mono BL.out.size)) (by have := BL.out.size; simp; omega) ?_; intro u2 W2 own2 _ b2 _; obtain ⟨a2, c2, rfl⟩ := own_shapeJ own2))
      go_roundw
      case rel => exact ⟨k + 1, by have := HK.out; omega, by have := HK.out; omega, own2, b2⟩
      case measure => have := HK.out; show 320 - (k + 1) < 320 - k; omega
    · have ek : k = 320 := by omega
      subst ek
      go_wp2
      go_ret
      exact ⟨_, rfl, own, bel⟩

set_option maxRecDepth 20000 in
theorem rpad_any (p : Nat → Nat) (len : Nat) (v : Value) (V : World) (hv : SliceZ V v len p) (hl : len ≤ 140737488351232) :
    Calls Tryz.prog 14 #[v] V fun e w' => ∃ r, e = .returned (.tuple #[r, .int .i64 (okE 320 len : Nat)]) ∧ w'.ownsRow V.heap.size 5 1 r (okN 320 len) (bytesL (okN 320 len) (cellF 0 headO len p)) ∧ Below V.heap.size V w' := by
  have HV : Hid (SliceZ V v len p) := hv
  obtain ⟨ao, cap, rfl⟩ := hv.shape
  have lb : (len : Int) ≤ 140737488351232 := by omega
  clear hv
  by_cases h : len ≤ 320
  · have i1 : ¬ (len : Int) > 320 := by omega
    rw [show okN 320 len = 320 from if_pos h, show okE 320 len = 0 from if_pos h]
    go_enter Tryz.func14, Tryz.ntmps14
    go_wp2_with (go_at_call 24; refine (fill_any p len _ V HV.out h).mono ?_; rintro e w1 ⟨r, rfl, own, hb1⟩)
    refine bodyPost_ret (results_tmp2 rfl _ _ _) rfl ⟨_, rfl, own, hb1⟩
  · have i1 : (len : Int) > 320 := by omega
    rw [show okN 320 len = 0 from if_neg h, show okE 320 len = 1 from if_neg h]
    go_enter Tryz.func14, Tryz.ntmps14
    go_wp2
    refine bodyPost_ret (results_tmp2 rfl _ _ _) rfl ⟨_, rfl, World.ownsRow_nil _ _ _ _, Below.refl _ _⟩
end Go.Proofs.YteekoabgbjbabaaGreatDoor.Cel

namespace Go.Proofs.YteekoabgbjbabaaGreatDoor.Cel
open Go.RowKit Gf8 Aes By8
/- The reference's Cut and Open. -/

/-- A cell that was handed in: where it lies. -/
theorem cell_at {W : World} {v : Value} {len : Nat} {c : Nat → Nat} (h : SliceN W v len c) (h0 : 0 < len) : ∃ b off cap, v = .slice (some ⟨b, off, none⟩) len cap ∧ len ≤ cap ∧ cap < 9223372036854775808 ∧ ∀ j, j < len → W.cell? ⟨b, off + j, none⟩ = some (.int .u8 (c j)) := by
  obtain ⟨a, cap, e, h1, h2, h3⟩ := h.shape
  obtain ⟨b, off, rfl, _, hc⟩ := h3 h0
  exact ⟨b, off, cap, e, h1, h2, hc⟩
theorem piece {W : World} {b off len cap l m : Nat} {c : Nat → Nat} (h : SliceN W (.slice (some ⟨b, off, none⟩) len cap) len c) (hm : l + m ≤ len) : SliceN W (.slice (some ⟨b, off + l, none⟩) m (cap - l)) m fun j => c (l + j) := by
  obtain ⟨a', cap', e, h1, h2, h3⟩ := h.shape
  injection e with e1 e2 e3
  subst e3
  refine ⟨⟨_, _, rfl, by omega, by omega, fun h0 => ?_⟩, fun j hj => h.bytes _ (by omega)⟩
  obtain ⟨b', off', e4, hb, hc⟩ := h3 (by omega)
  rw [← e1] at e4
  injection e4 with e4
  injection e4 with e5 e6
  subst e5 e6
  exact ⟨b, off + l, rfl, hb, fun j hj => by rw [Nat.add_assoc]; exact hc _ (by omega)⟩

end Go.Proofs.YteekoabgbjbabaaGreatDoor.Cel

namespace Go.Proofs.YteekoabgbjbabaaGreatDoor.Cel
open Go.RowKit Gf8 Aes By8
/- The program's helpers of layer 5: copy of any list, filled, noughts, bytes.Clone. -/

set_option maxRecDepth 20000 in
/-- copy of any list into a row, room enough. -/
theorem execCopyZ {o : Oper} {a : Act} {w : World} {x y : Operand} {O off n c m N : Nat} {v : Value} {f p : Nat → Nat} {t : TypeId} (ho : o.op = .call { callee := .builtin .copy, args := #[x, y], argTypes := #[24, 24] })
    (hx : a.eval x = .slice (some ⟨O, off, none⟩) n c) (hy : a.eval y = v) (hv : SliceN w v m p) (hO : w.heap[O]? = some (.cells (bA N f) t)) (hmn : m ≤ n) (hN : off + n ≤ N) :
    (execOp a.eval o).run Tryz.prog w = .ok (.value (.int .i64 (m : Int))) (w.setRow O (bA N (spl f off m p))) := by
  obtain ⟨⟨ad, cap, rfl, hc1, hc2, hc3⟩, hp⟩ := hv
  by_cases h0 : m = 0
  · subst h0
    have h := run_copy_none (P := Tryz.prog) w 24 24 o.type 5 (some ⟨O, off, none⟩) ad n c 0 cap Tryz.underlying24 (by kernel_rfl) (by simp)
    have e : bA N (spl f off 0 p) = bA N f := by
      congr 1
      funext i
      unfold spl
      rw [if_neg (by omega)]
    rw [e, setRow_self w O _ t _ hO]
    unfold execOp
    simp only [ho, resolve, invoke, builtin, Sem.run_bind, Sem.run_pure, Result.andThen_ok, List.map_toArray, List.map_cons, List.map_nil, hx, hy, h]
    rfl
  · obtain ⟨b, of, rfl, hb, hc⟩ := hc3 (by omega)
    have hmin : Nat.min m n = m := Nat.min_eq_left hmn
    have h := execCopyB (cs := bytesL m p) ho hx hy hO (by rw [bytesL_len, hmin]) ?_ (by rw [bytesL_len, bA_size]; omega) (bytesL_one m p)
    · rw [bytesL_len, bA_splice N off m f p (by omega)] at h
      exact h
    · intro j u hj
      have hjc : j < m := by have := (List.getElem?_eq_some_iff.1 hj).1; rwa [bytesL_len] at this
      rw [bytesL_at m _ hjc] at hj
      rw [Addr.add_mid, ← hj]
      exact hc j hjc
/-- A list that lies elsewhere stays. -/
theorem SliceN.row {w V : World} {v : Value} {m : Nat} {p : Nat → Nat} (h : SliceN V v m p) (hb : Below V.heap.size V w) : SliceN w v m p := h.on hb
theorem belRow {V w : World} {O : Nat} (h : Below V.heap.size V w) (hO : V.heap.size ≤ O) (c : Array Value) : Below V.heap.size V (w.setRow O c) := below4 h hO c
/-- What is filled. -/
theorem spl_cell (hl len : Nat) (h p : Nat → Nat) : bA 320 (spl (spl (fun _ => 0) 0 hl h) hl len p) = bA 320 (cellF hl h len p) := by
  congr 1
  funext i
  unfold spl cellF
  by_cases h1 : i < hl
  · rw [if_neg (by omega), if_pos (by omega), if_pos h1, Nat.sub_zero]
  · rw [if_neg h1]
    by_cases h2 : i < hl + len
    · rw [if_pos (by omega), if_pos h2]
    · rw [if_neg (by omega), if_neg (by omega), if_neg h2]
set_option maxRecDepth 20000 in
set_option maxHeartbeats 400000 in
theorem filled_any (hl len : Nat) (h p : Nat → Nat) (u v : Value) (V : World) (hu : SliceN V u hl h) (hv : SliceN V v len p) (h2 : hl ≤ 2) (hs : hl + len ≤ 320) :
    Calls Tryz.prog 25 #[u, v] V fun e w' => ∃ r, e = .returned r ∧ w'.ownsRow V.heap.size 5 1 r 320 (bytesL 320 (cellF hl h len p)) ∧ Below V.heap.size V w' := by
  have HU : Hid (SliceN V u hl h) := hu
  have HV : Hid (SliceN V v len p) := hv
  have HS : Hid (hl ≤ 2 ∧ hl + len ≤ 320) := ⟨h2, hs⟩
  have r1 : (V.alloc (.cells (bA 320 fun _ => 0) 5)).heap[V.heap.size]? = some (.cells (bA 320 fun _ => 0) 5) := heapNew V _
  have r2 := setRow_heap _ _ _ (bA 320 (spl (fun _ => 0) 0 hl h)) _ _ r1
  have r3 := setRow_heap _ _ _ (bA 320 (spl (spl (fun _ => 0) 0 hl h) hl len p)) _ _ r2
  have b1 : Below V.heap.size V (V.alloc (.cells (bA 320 fun _ => 0) 5)) := belNew V _
  have b2 := belRow b1 (Nat.le_refl _) (bA 320 (spl (fun _ => 0) 0 hl h))
  have b3 := belRow b2 (Nat.le_refl _) (bA 320 (spl (spl (fun _ => 0) 0 hl h) hl len p))
  have R : Hid (_ ∧ _ ∧ _) := ⟨r1, r2, r3⟩
  have B : Hid (_ ∧ _ ∧ _) := ⟨b1, b2, b3⟩
  have sl : sliced (some ⟨V.heap.size, 0, none⟩) hl 320 320 1 = .slice (some ⟨V.heap.size, hl, none⟩) (320 - hl) (320 - hl) := by
    unfold sliced
    rw [if_neg (by omega)]
    simp [Addr.add_mid]
  have sg := fun W => By8.slice_l (some ⟨V.heap.size, 0, none⟩) 320 320 hl (by omega) W
  rw [sl] at sg
  clear hu hv h2 hs r1 r2 r3 b1 b2 b3 sl
  go_enter Tryz.func25, Tryz.ntmps25
  go_wp2_with (first
    | (refine wpList_ex rfl (execMk (l := 320) (n := 320) rfl rfl rfl (Nat.le_refl _) (by decide)) ?_)
    | (refine wpList_ex rfl (execCopyZ (x := .tmp 8) (y := .tmp 9) rfl rfl rfl (HU.out.on B.out.1) R.out.1 (by have := HS.out; omega) (by omega)) ?_)
    | (refine wpList_ex rfl (execCopyZ (x := .tmp 11) (y := .tmp 12) rfl rfl rfl (HV.out.on B.out.2.1) R.out.2.1 (by have := HS.out; omega) (by have := HS.out; omega)) ?_))
  go_ret
  refine ⟨_, rfl, ?_, B.out.2.2⟩
  exact own_full (n := 320) (by rw [← spl_cell]; exact R.out.2.2) (Nat.le_refl _) (by omega)

set_option maxRecDepth 20000 in
theorem pnoughts_any (c : Nat → Nat) (len : Nat) (v : Value) (V : World) (hv : SliceN V v len c) (hl : len ≤ 140737488351232) :
    Calls Tryz.prog 40 #[v] V fun e w' => e = .returned (.bool (zeroF len c 0)) ∧ Below V.heap.size V w' := by
  obtain ⟨⟨ad, cap, rfl, hc1, hc2, hc3⟩, hp⟩ := hv
  have HC : Hid (0 < len → ∃ b off, ad = some ⟨b, off, none⟩ ∧ b < V.heap.size ∧ ∀ j, j < len → V.cell? ⟨b, off + j, none⟩ = some (.int .u8 (c j))) := hc3
  have HL : Hid (len ≤ 140737488351232) := hl
  clear hc1 hc2 hc3 hl
  go_enter Tryz.func40, Tryz.ntmps40
  go_wp2_with fail
  go_loopw [7] (fun x W => ∃ k : Nat, k ≤ len ∧ x = .int .i64 k ∧ (∀ j, j < k → c j = 0) ∧ W = V) (fun x _ => len - (intOf x).toNat)
  case atStart => exact ⟨0, by omega, rfl, fun j h2 => by omega, rfl⟩
  case round =>
    obtain ⟨k, hkb, rfl, hz, rfl⟩ := hrel
    by_cases hlt : k < len
    · have i1 : (k : Int) < len := by omega
      have lb : (len : Int) ≤ 140737488351232 := by have := HL.out; omega
      obtain ⟨b, off, rfl, _, hc⟩ := HC.out (by omega)
      obtain ⟨y, hy⟩ : ∃ y, c k = y := ⟨_, rfl⟩
      have c1 : wr.cell? ⟨b, off + k, none⟩ = some (.int .u8 y) := by rw [hc k hlt, hy]
      have HZ : Hid (∀ j, j < k → c j = 0) := hz
      have HK : Hid (k < len) := hlt
      have HY : Hid (c k = y) := hy
      clear hc hz hy hlt hkb
      by_cases h0 : y = 0
      · have z0 : ((y : Int) != 0) = false := by simp [h0]
        have H0 : Hid (y = 0) := h0
        clear h0
        go_wp2
        go_roundw
        case rel =>
          have a := HK.out
          refine ⟨k + 1, by omega, by go_num, fun j h2 => ?_, by first | rfl | trivial⟩
          by_cases e : j = k
          · subst e; rw [HY.out, H0.out]
          · exact HZ.out j (by omega)
        case measure => have := HK.out; simp [intOf]; omega
      · have z0 : ((y : Int) != 0) = true := by simp [h0]
        have R : Hid (zeroF len c 0 = false) := by
          show zeroF len c 0 = false
          cases hz : zeroF len c 0 with
          | false => rfl
          | true =>
            have := (zeroF_iff len c 0).1 hz k (by omega) HK.out
            rw [HY.out] at this
            exact absurd this h0
        go_wp2
        go_ret
        rw [R.out]
        exact ⟨rfl, Below.refl _ _⟩
    · have i1 : ¬ (k : Int) < len := by omega
      have R : Hid (zeroF len c 0 = true) := (zeroF_iff len c 0).2 fun j h1 h2 => hz j (by omega)
      clear hz
      go_wp2
      go_ret
      rw [R.out]
      exact ⟨rfl, Below.refl _ _⟩
/-- The noughts of a piece. -/
theorem zeroF_piece (c : Nat → Nat) (n m : Nat) (h : m ≤ n) : zeroF (n - m) (fun j => c (m + j)) 0 = zeroF n c m := by
  rw [Bool.eq_iff_iff, zeroF_iff, zeroF_iff]
  constructor
  · intro q j h1 h2
    have := q (j - m) (by omega) (by omega)
    rwa [show m + (j - m) = j by omega] at this
  · intro q j _ h2
    exact q _ (by omega) (by omega)

set_option maxRecDepth 20000 in
set_option maxHeartbeats 400000 in
theorem clone_any (p : Nat → Nat) (len : Nat) (ad : Addr) (cap : Nat) (V : World) (hv : SliceN V (.slice (some ad) len cap) len p) (hl : len ≤ 320) :
    Calls Tryz.prog 41 #[.slice (some ad) len cap] V fun e w' => ∃ r, e = .returned r ∧ w'.ownsRow V.heap.size 5 1 r len (bytesL len p) ∧ Below V.heap.size V w' := by
  have HV : Hid (SliceN V (.slice (some ad) len cap) len p) := hv
  have HL : Hid (len ≤ 320) := hl
  have q : ∀ (w : World) (a : Option Addr) (n c n' c' : Nat), (binOp .eql 24 (.slice a n c) (.slice none n' c')).run Tryz.prog w = .ok (.bool a.isNone) w := fun w a n c n' c' => Lib.run_eql_slice_nil w _ _ a n c n' c' Tryz.underlying24
  clear hv hl
  go_enter Tryz.func41, Tryz.ntmps41
  go_wp2_with (refine atAppB (.tmp 5) (.tmp 6) rfl ?_; go_must (refine By8.wpList_appS (B := V.heap.size) (n := 0) (m := len) (p := p) rfl (.tmp 5) (.tmp 6) rfl rfl rfl (own_none V p) (sliceN_cg (HV.out.on (belNew V _)) (fun j _ => congrArg p (Nat.zero_add j).symm)) (fun l c h => by cases h) (by have := HL.out; omega) (by simp) ?_; intro u1 W1 own1 gr1; have b1 : Below V.heap.size V W1 := below_grown (belNew V _) (by simp) (own_none V p) gr1; rw [Nat.zero_add] at own1; clear gr1))
  go_ret
  exact ⟨_, rfl, own1, b1⟩
end Go.Proofs.YteekoabgbjbabaaGreatDoor.Cel

namespace Go.Proofs.YteekoabgbjbabaaGreatDoor.Cel
open Go.RowKit Gf8 Aes By8
/- The program's layer 5. -/

/-- No head. -/
theorem no_head (V : World) : SliceN V (.slice none 0 0) 0 headO := ⟨⟨none, 0, rfl, Nat.le_refl _, by omega, fun h => by omega⟩, fun j h => by omega⟩
set_option maxRecDepth 20000 in
theorem pad_any (p : Nat → Nat) (len : Nat) (v : Value) (V : World) (hv : SliceZ V v len p) (hl : len ≤ 140737488351232) :
    Calls Tryz.prog 17 #[v] V fun e w' => ∃ r, e = .returned (.tuple #[r, .int .i64 (okE 320 len : Nat)]) ∧ w'.ownsRow V.heap.size 5 1 r (okN 320 len) (bytesL (okN 320 len) (cellF 0 headO len p)) ∧ Below V.heap.size V w' := by
  have HV : Hid (SliceZ V v len p) := hv
  obtain ⟨ao, cap, rfl⟩ := hv.shape
  have lb : (len : Int) ≤ 140737488351232 := by omega
  clear hv
  by_cases h : len ≤ 320
  · have i1 : ¬ (len : Int) > 320 := by omega
    rw [show okN 320 len = 320 from if_pos h, show okE 320 len = 0 from if_pos h]
    go_enter Tryz.func17, Tryz.ntmps17
    go_wp2_with (go_at_call 25; refine (filled_any 0 len headO p _ _ V (no_head V) HV.out.sl (by omega) (by omega)).mono ?_; rintro e w1 ⟨r, rfl, own, hb1⟩)
    refine bodyPost_ret (results_tmp2 rfl _ _ _) rfl ⟨_, rfl, own, hb1⟩
  · have i1 : (len : Int) > 320 := by omega
    rw [show okN 320 len = 0 from if_neg h, show okE 320 len = 1 from if_neg h]
    go_enter Tryz.func17, Tryz.ntmps17
    go_wp2
    refine bodyPost_ret (results_tmp2 rfl _ _ _) rfl ⟨_, rfl, World.ownsRow_nil _ _ _ _, Below.refl _ _⟩
theorem head2_slice (V : World) (x y : Nat) (h : Nat → Nat) (h0 : h 0 = x) (h1 : h 1 = y) (b0 : x < 256) (b1 : y < 256) : SliceN (V.alloc (.cells #[.int .u8 x, .int .u8 y] 5)) (.slice (some ⟨V.heap.size, 0, none⟩) 2 2) 2 h := by
  refine ⟨⟨_, _, rfl, Nat.le_refl _, by omega, fun _ => ⟨V.heap.size, 0, rfl, by simp, fun j hj => ?_⟩⟩, fun j hj => ?_⟩
  · rw [cell_of_row _ _ _ _ _ _ (heapNew V _), Nat.zero_add]
    match j, hj with
    | 0, _ => rw [h0]; rfl
    | 1, _ => rw [h1]; rfl
  · match j, hj with
    | 0, _ => rw [h0]; exact b0
    | 1, _ => rw [h1]; exact b1
set_option maxRecDepth 20000 in
theorem plain_any (p : Nat → Nat) (len : Nat) (v : Value) (V : World) (hv : SliceZ V v len p) (hl : len ≤ 140737488351232) :
    Calls Tryz.prog 69 #[v] V fun e w' => ∃ r, e = .returned (.tuple #[r, .int .i64 (okE 48 len : Nat)]) ∧ w'.ownsRow V.heap.size 5 1 r (okN 48 len) (bytesL (okN 48 len) (cellF 2 (headP len) len p)) ∧ Below V.heap.size V w' := by
  have HV : Hid (SliceZ V v len p) := hv
  obtain ⟨ao, cap, rfl⟩ := hv.shape
  have lb : (len : Int) ≤ 140737488351232 := by omega
  clear hv
  by_cases h : len ≤ 48
  · have i1 : ¬ (len : Int) > 48 := by omega
    have i2 : (len : Int) ≤ 48 := by omega
    have i3 : (len : Int) % 256 = len := by omega
    have HH : Hid (len ≤ 48) := h
    rw [show okN 48 len = 320 from if_pos h, show okE 48 len = 0 from if_pos h]
    clear h
    go_enter Tryz.func69, Tryz.ntmps69
    go_wp2_with (go_at_call 25; refine (filled_any 2 len (headP len) p _ _ _ (head2_slice V 1 len (headP len) rfl rfl (by omega) (by have := HH.out; omega)) (HV.out.sl.on (belNew V _)) (by omega) (by have := HH.out; omega)).mono ?_; rintro e w1 ⟨r, rfl, own, hb1⟩)
    refine bodyPost_ret (results_tmp2 rfl _ _ _) rfl ⟨_, rfl, own_base own (by simp), (belNew V _).trans (hb1.mono (by simp))⟩
  · have i1 : (len : Int) > 48 := by omega
    rw [show okN 48 len = 0 from if_neg h, show okE 48 len = 1 from if_neg h]
    go_enter Tryz.func69, Tryz.ntmps69
    go_wp2
    refine bodyPost_ret (results_tmp2 rfl _ _ _) rfl ⟨_, rfl, World.ownsRow_nil _ _ _ _, Below.refl _ _⟩
/-- A piece of a cell, by its bounds. -/
theorem cut_shape (b off cap l h : Nat) : ∃ ad, sliced (some ⟨b, off, none⟩) l h cap 1 = .slice (some ad) (h - l) (cap - l) := by
  unfold sliced
  by_cases e : cap = l
  · exact ⟨_, by rw [if_pos e]⟩
  · exact ⟨_, by rw [if_neg e]; rfl⟩

set_option maxRecDepth 20000 in
set_option maxHeartbeats 400000 in
theorem cut_any (c : Nat → Nat) (len : Nat) (n : Int) (v : Value) (V : World) (hv : SliceZ V v len c) (hl : len ≤ 140737488351232) (h0 : -9223372036854775808 ≤ n) (h1 : n < 9223372036854775808) :
    Calls Tryz.prog 52 #[v, .int .i64 n] V fun e w' => ∃ r, e = .returned (.tuple #[r, .int .i64 (cutE c len n : Nat)]) ∧ w'.ownsRow V.heap.size 5 1 r (cutN c len n) (bytesL (cutN c len n) c) ∧ Below V.heap.size V w' := by
  have HV : Hid (SliceZ V v len c) := hv
  by_cases hs : len = 320
  · subst hs
    obtain ⟨b, off, cap, rfl, hc1, hc2, hc⟩ := cell_at hv.sl (by omega)
    clear hv hc
    by_cases hn : n < 0 ∨ 320 < n
    · have E : cutE c 320 n = 2 := by unfold cutE; rw [if_neg (by simp), if_pos hn]
      have E2 : cutN c 320 n = 0 := by unfold cutN; rw [E]; rfl
      rw [E, E2]
      clear E E2
      by_cases hn0 : n < 0
      · clear hn
        go_enter Tryz.func52, Tryz.ntmps52
        go_wp2
        refine bodyPost_ret (results_tmp2 rfl _ _ _) rfl ⟨_, rfl, World.ownsRow_nil _ _ _ _, Below.refl _ _⟩
      · have hn1 : n > 320 := by omega
        clear hn
        go_enter Tryz.func52, Tryz.ntmps52
        go_wp2
        refine bodyPost_ret (results_tmp2 rfl _ _ _) rfl ⟨_, rfl, World.ownsRow_nil _ _ _ _, Below.refl _ _⟩
    · obtain ⟨m, rfl⟩ : ∃ m : Nat, n = m := ⟨n.toNat, by omega⟩
      have hm : m ≤ 320 := by omega
      have n0 : ¬ (m : Int) < 0 := by omega
      have n1 : ¬ (m : Int) > 320 := by omega
      obtain ⟨a1, e1⟩ := cut_shape b off cap m 320
      obtain ⟨a2, e2⟩ := cut_shape b off cap 0 m
      have p1 := HV.out.sl.sub m 320 hm (Nat.le_refl _)
      have p2 := HV.out.sl.sub 0 m (Nat.zero_le _) hm
      have NG := pnoughts_any _ _ _ V p1 (by omega)
      rw [e1] at NG
      rw [e2] at p2
      simp only [Nat.sub_zero, Nat.zero_add] at p2 e2
      have s1 := fun W => By8.slice_l (some ⟨b, off, none⟩) 320 cap m hm W
      have s2 := fun W => By8.slice_h (some ⟨b, off, none⟩) 320 cap m (by omega) W
      rw [e1] at s1
      rw [e2] at s2
      rw [zeroF_piece c 320 m hm] at NG
      clear e1 e2 p1
      cases hz : zeroF 320 c m with
      | false =>
        have E : cutE c 320 m = 51 := by unfold cutE; rw [if_neg (by simp), if_neg hn]; rw [if_neg (by show ¬ zeroF 320 c m = true; rw [hz]; simp)]
        have E2 : cutN c 320 m = 0 := by unfold cutN; rw [E]; rfl
        rw [E, E2]
        rw [hz] at NG
        clear E E2 hn p2
        go_enter Tryz.func52, Tryz.ntmps52
        go_wp2_with (go_at_call 40; refine NG.mono ?_; rintro e w1 ⟨rfl, hb1⟩)
        refine bodyPost_ret (results_tmp2 rfl _ _ _) rfl ⟨_, rfl, World.ownsRow_nil _ _ _ _, hb1⟩
      | true =>
        have E : cutE c 320 m = 0 := by unfold cutE; rw [if_neg (by simp), if_neg hn]; exact if_pos hz
        have E2 : cutN c 320 m = m := by unfold cutN; rw [E]; rfl
        rw [E, E2]
        rw [hz] at NG
        have HM : Hid (m ≤ 320) := hm
        have P2 : Hid (_) := p2
        clear E E2 hn hm p2
        go_enter Tryz.func52, Tryz.ntmps52
        go_wp2_with (first
          | (go_at_call 40; refine NG.mono ?_; rintro e w1 ⟨rfl, hb1⟩)
          | (go_at_call 41; refine (clone_any c m a2 cap w1 (P2.out.on hb1) HM.out).mono ?_; rintro e w2 ⟨r, rfl, own, hb2⟩))
        refine bodyPost_ret (results_tmp2 rfl _ _ _) rfl ⟨_, rfl, own_base own hb1.size, hb1.trans (hb2.mono hb1.size)⟩
  · have E : cutE c len n = 50 := by unfold cutE; rw [if_pos hs]
    have E2 : cutN c len n = 0 := by unfold cutN; rw [E]; rfl
    rw [E, E2]
    obtain ⟨ao, cap, rfl⟩ := hv.shape
    have z0 : ((len : Int) != 320) = true := by simp; omega
    clear E E2 hs hv
    go_enter Tryz.func52, Tryz.ntmps52
    go_wp2
    refine bodyPost_ret (results_tmp2 rfl _ _ _) rfl ⟨_, rfl, World.ownsRow_nil _ _ _ _, Below.refl _ _⟩

set_option maxRecDepth 20000 in
set_option maxHeartbeats 1000000 in
theorem opened_any (c : Nat → Nat) (v : Value) (V : World) (hv : SliceZ V v 320 c) (hk : c 0 = 1) :
    Calls Tryz.prog 27 #[v] V fun e w' => ∃ r, e = .returned (.tuple #[r, .bool (openY c 320), .int .i64 (openE c 320 : Nat)]) ∧ w'.ownsRow V.heap.size 5 1 r (openN c 320) (bytesL (openN c 320) fun j => c (2 + j)) ∧ Below V.heap.size V w' := by
  have HV : Hid (SliceZ V v 320 c) := hv
  obtain ⟨b, off, cap, rfl, hc1, hc2, hc⟩ := cell_at hv.sl (by omega)
  have b1 := hv.sl.bytes 1 (by omega)
  obtain ⟨y, hy⟩ : ∃ y, c 1 = y := ⟨_, rfl⟩
  have q1 : V.cell? ⟨b, off + 1, none⟩ = some (.int .u8 y) := by rw [hc 1 (by omega), hy]
  rw [hy] at b1
  clear hv hc
  by_cases h48 : 48 < y
  · have E : openE c 320 = 53 := by unfold openE; rw [if_neg (by simp), if_neg (by omega), if_neg (by omega), if_pos (by omega)]
    have Y : openY c 320 = false := by unfold openY; simp; omega
    have N : openN c 320 = 0 := by unfold openN; rw [Y]; rfl
    rw [E, Y, N]
    have i2 : (y : Int) > 48 := by omega
    clear E Y N hk hy
    go_enter Tryz.func27, Tryz.ntmps27
    go_wp2
    refine bodyPost_ret (results_tmp3 rfl _ _ _) rfl ⟨_, rfl, World.ownsRow_nil _ _ _ _, Below.refl _ _⟩
  · have i2 : ¬ (y : Int) > 48 := by omega
    have i3 : (y : Int) ≤ 48 := by omega
    obtain ⟨m, hm⟩ : ∃ m, 2 + y = m := ⟨_, rfl⟩
    have e2 : 2 + (y : Int) = m := by omega
    have hm3 : m ≤ 320 := by omega
    obtain ⟨a1, e1⟩ := cut_shape b off cap m 320
    obtain ⟨a2, e3⟩ := cut_shape b off cap 2 m
    have p1 := HV.out.sl.sub m 320 hm3 (Nat.le_refl _)
    have p2 := HV.out.sl.sub 2 m (by omega) hm3
    have NG := pnoughts_any _ _ _ V p1 (by omega)
    rw [e1] at NG
    rw [e3] at p2
    have s1 := fun W => By8.slice_l (some ⟨b, off, none⟩) 320 cap m hm3 W
    have s2 : ∀ W, (Instr.sliceAt 24 (.slice (some ⟨b, off, none⟩) 320 cap) (some (.int .i64 2)) (some (.int .i64 (m : Int))) none).run Tryz.prog W = .ok (sliced (some ⟨b, off, none⟩) 2 m cap 1) W := fun W => By8.slice_lh (some ⟨b, off, none⟩) 320 cap 2 m (by omega) (by omega) W
    rw [e1] at s1
    rw [e3] at s2
    rw [zeroF_piece c 320 m hm3] at NG
    clear e1 e3 p1
    cases hz : zeroF 320 c m with
    | false =>
      have zf : ¬ zeroFrom c (2 + c 1) = true := by rw [hy, hm]; show ¬ zeroF 320 c m = true; rw [hz]; simp
      have E : openE c 320 = 51 := by unfold openE; rw [if_neg (by simp), if_neg (by omega), if_neg (by omega), if_neg (by omega), if_neg zf]
      have Y : openY c 320 = false := by unfold openY; simp only [Bool.and_eq_false_iff]; exact Or.inr (by simpa using zf)
      have N : openN c 320 = 0 := by unfold openN; rw [Y]; rfl
      rw [E, Y, N]
      rw [hz] at NG
      clear E Y N hk hy zf hm p2
      go_enter Tryz.func27, Tryz.ntmps27
      go_wp2_with (go_at_call 40; refine NG.mono ?_; rintro e w1 ⟨rfl, hb1⟩)
      refine bodyPost_ret (results_tmp3 rfl _ _ _) rfl ⟨_, rfl, World.ownsRow_nil _ _ _ _, hb1⟩
    | true =>
      have zf : zeroFrom c (2 + c 1) = true := by rw [hy, hm]; exact hz
      have E : openE c 320 = 0 := by unfold openE; rw [if_neg (by simp), if_neg (by omega), if_neg (by omega), if_neg (by omega), if_pos zf]
      have Y : openY c 320 = true := by unfold openY; simp only [Bool.and_eq_true, decide_eq_true_eq]; exact ⟨⟨⟨trivial, hk⟩, by omega⟩, zf⟩
      have N : openN c 320 = m - 2 := by unfold openN; rw [Y, if_pos rfl, hy]; omega
      rw [E, Y, N]
      rw [hz] at NG
      have HM : Hid (m - 2 ≤ 320) := by show m - 2 ≤ 320; omega
      have P2 : Hid (_) := p2
      clear E Y N hk hy zf hm hm3 p2
      go_enter Tryz.func27, Tryz.ntmps27
      go_wp2_with (first
        | (go_at_call 40; refine NG.mono ?_; rintro e w1 ⟨rfl, hb1⟩)
        | (go_at_call 41; refine (clone_any (fun j => c (2 + j)) (m - 2) a2 (cap - 2) w1 (P2.out.on hb1) HM.out).mono ?_; rintro e w2 ⟨r, rfl, own, hb2⟩))
      refine bodyPost_ret (results_tmp3 rfl _ _ _) rfl ⟨_, rfl, own_base own hb1.size, hb1.trans (hb2.mono hb1.size)⟩

set_option maxRecDepth 20000 in
set_option maxHeartbeats 1000000 in
theorem open_any (c : Nat → Nat) (len : Nat) (v : Value) (V : World) (hv : SliceZ V v len c) (hl : len ≤ 140737488351232) :
    Calls Tryz.prog 19 #[v] V fun e w' => ∃ r, e = .returned (.tuple #[r, .bool (openY c len), .int .i64 (openE c len : Nat)]) ∧ w'.ownsRow V.heap.size 5 1 r (openN c len) (bytesL (openN c len) fun j => c (2 + j)) ∧ Below V.heap.size V w' := by
  have HV : Hid (SliceZ V v len c) := hv
  by_cases hs : len = 320
  · subst hs
    obtain ⟨b, off, cap, rfl, hc1, hc2, hc⟩ := cell_at hv.sl (by omega)
    have b0 := hv.sl.bytes 0 (by omega)
    obtain ⟨x, hx⟩ : ∃ x, c 0 = x := ⟨_, rfl⟩
    have q0 : V.cell? ⟨b, off, none⟩ = some (.int .u8 x) := by have := hc 0 (by omega); rw [hx] at this; exact this
    rw [hx] at b0
    clear hv hc hl
    by_cases h0 : x = 0
    · have E : openE c 320 = 0 := by unfold openE; rw [if_neg (by simp), if_neg (by omega), if_pos (by omega)]
      have Y : openY c 320 = false := by unfold openY; simp; omega
      have N : openN c 320 = 0 := by unfold openN; rw [Y]; rfl
      rw [E, Y, N]
      subst h0
      clear E Y N hx
      go_enter Tryz.func19, Tryz.ntmps19
      go_wp2
      refine bodyPost_ret (results_tmp3 rfl _ _ _) rfl ⟨_, rfl, World.ownsRow_nil _ _ _ _, Below.refl _ _⟩
    · have i0 : ((x : Int) == 0) = false := by simp; omega
      by_cases h1 : x = 1
      · subst h1
        have OP := opened_any c _ V HV.out hx
        clear hx h0
        go_enter Tryz.func19, Tryz.ntmps19
        go_wp2_with (go_at_call 27; refine OP.mono ?_; rintro e w1 ⟨r, rfl, own, hb1⟩)
        refine bodyPost_ret (results_tmp3 rfl _ _ _) rfl ⟨_, rfl, own, hb1⟩
      · have i1 : ((x : Int) == 1) = false := by simp; omega
        have E : openE c 320 = 52 := by unfold openE; rw [if_neg (by simp), if_pos (by omega)]
        have Y : openY c 320 = false := by unfold openY; simp; omega
        have N : openN c 320 = 0 := by unfold openN; rw [Y]; rfl
        rw [E, Y, N]
        clear E Y N hx h0 h1
        go_enter Tryz.func19, Tryz.ntmps19
        go_wp2
        refine bodyPost_ret (results_tmp3 rfl _ _ _) rfl ⟨_, rfl, World.ownsRow_nil _ _ _ _, Below.refl _ _⟩
  · have E : openE c len = 50 := by unfold openE; rw [if_pos hs]
    have Y : openY c len = false := by unfold openY; simp [hs]
    have N : openN c len = 0 := by unfold openN; rw [Y]; rfl
    rw [E, Y, N]
    obtain ⟨ao, cap, rfl⟩ := hv.shape
    have z0 : ((len : Int) != 320) = true := by simp; omega
    clear E Y N hs hv
    go_enter Tryz.func19, Tryz.ntmps19
    go_wp2
    refine bodyPost_ret (results_tmp3 rfl _ _ _) rfl ⟨_, rfl, World.ownsRow_nil _ _ _ _, Below.refl _ _⟩
end Go.Proofs.YteekoabgbjbabaaGreatDoor.Cel
