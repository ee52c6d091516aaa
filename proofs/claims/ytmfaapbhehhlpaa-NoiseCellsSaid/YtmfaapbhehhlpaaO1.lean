import Derived.Test.YtmfaapbhehhlpaaO0
namespace Go.Proofs.Ytmfaapbhehhlpaa.Cel
open Go.RowKit Gf8 Aes By8
/- The reference's functions of layer 5. -/

def lenV (v : Value) : Nat := match v with | .slice _ m _ => m | _ => 0
/-- The bytes as they are joined. -/
def joinF (hl : Nat) (h p : Nat → Nat) : Nat → Nat := fun j => if j < hl then h j else p (j - hl)
theorem cellF_join (hl : Nat) (h : Nat → Nat) (len : Nat) (p : Nat → Nat) : cellF 0 headO (hl + len) (joinF hl h p) = cellF hl h len p := by
  funext j
  unfold cellF joinF
  rw [if_neg (by omega), Nat.zero_add, Nat.sub_zero]
  by_cases h1 : j < hl
  · rw [if_pos (by omega), if_pos h1, if_pos h1]
  · rw [if_neg h1, if_neg h1]
theorem cellF_in (len : Nat) (p : Nat → Nat) {j : Nat} (h : j < len) : cellF 0 headO len p j = p j := by
  unfold cellF
  rw [if_neg (by omega), if_pos (by omega)]
  rfl
theorem cellF_out (len : Nat) (p : Nat → Nat) {j : Nat} (h : ¬ j < len) : cellF 0 headO len p j = 0 := by
  unfold cellF
  rw [if_neg (by omega), if_neg (by omega)]

set_option maxRecDepth 20000 in
set_option maxHeartbeats 400000 in
theorem fill_any (p : Nat → Nat) (len : Nat) (v : Value) (V : World) (hv : SliceZ V v len p) (hl : len ≤ 320) :
    Calls Try.prog 37 #[v] V fun e w' => ∃ r, e = .returned r ∧ w'.ownsRow V.heap.size 5 1 r 320 (bytesL 320 (cellF 0 headO len p)) ∧ Below V.heap.size V w' := by
  have HV : Hid (SliceZ V v len p) := hv
  have HL : Hid (len ≤ 320) := hl
  obtain ⟨q, hq⟩ : ∃ q, cellF 0 headO len p = q := ⟨_, rfl⟩
  have HQ : Hid ((∀ j, j < len → p j = q (0 + j)) ∧ ∀ j, ¬ j < len → q j = 0) := by
    rw [← hq]
    exact ⟨fun j hj => by rw [Nat.zero_add, cellF_in len p hj], fun j hj => cellF_out len p hj⟩
  rw [hq]
  clear hq hv hl
  go_enter Try.func37, Try.ntmps37
  go_wp2_with (first
    | (refine atAppB (.tmp 4) (.tmp 5) rfl ?_; go_must (refine By8.wpList_appS (B := V.heap.size) (n := 0) (m := len) (p := q) rfl (.tmp 4) (.tmp 5) rfl rfl rfl (own_none V q) (sliceN_cg (HV.out.sl.on (belNew V _)) HQ.out.1) HV.out.nil (by have := HL.out; omega) (by simp) ?_; intro u1 W1 own1 gr1; have b1 : Below V.heap.size V W1 := below_grown (belNew V _) (by simp) (own_none V q) gr1; rw [Nat.zero_add] at own1; clear gr1)))
  have O1 : Hid (_) := own1
  have B1 : Hid (_) := b1
  clear own1 b1
  go_loopw [3] (fun u W => ∃ k : Nat, len ≤ k ∧ k ≤ 320 ∧ W.ownsRow V.heap.size 5 1 u k (bytesL k q) ∧ Below V.heap.size V W) (fun u _ => 320 - lenV u)
  case atStart => exact ⟨len, Nat.le_refl _, HL.out, O1.out, B1.out⟩
  case round =>
    obtain ⟨k, hk1, hk2, own, bel⟩ := hrel
    clear O1 B1
    obtain ⟨ao, cp, rfl⟩ := own_shapeJ own
    by_cases hlt : k < 320
    · have i1 : (k : Int) < 320 := by omega
      have HK : Hid (len ≤ k ∧ k < 320) := ⟨hk1, hlt⟩
      have OW : Hid (_) := own
      have BL : Hid (Below V.heap.size V wr) := bel
      clear own bel hk1 hk2 hlt
      go_wp2_with (refine atAppB (.tmp 10) (.tmp 11) rfl ?_; go_must (refine wpList_app1 (B := V.heap.size) (n := k) (g := wr.heap.size) (p := q) (w0 := V) rfl (.tmp 10) (.tmp 11) rfl rfl rfl (ownsRow_below OW.out (belNew wr _)) (by rw [HQ.out.2 k (by have := HK.out; omega)]; exact heapNew wr _) (by have := HK.out; omega) (BL.out.trans ((belNew wr _).mono BL.out.size)) (by have := BL.out.size; simp; omega) ?_; intro u2 W2 own2 _ b2 _; obtain ⟨a2, c2, rfl⟩ := own_shapeJ own2))
      go_roundw
      case rel => exact ⟨k + 1, by have := HK.out; omega, by have := HK.out; omega, own2, b2⟩
      case measure => have := HK.out; show 320 - (k + 1) < 320 - k; omega
    · have ek : k = 320 := by omega
      subst ek
      go_wp2
      go_ret
      exact ⟨_, rfl, own, bel⟩

set_option maxRecDepth 20000 in
theorem rpad_any (p : Nat → Nat) (len : Nat) (v : Value) (V : World) (hv : SliceZ V v len p) (hl : len ≤ 140737488351232) :
    Calls Try.prog 30 #[v] V fun e w' => ∃ r, e = .returned (.tuple #[r, .int .i64 (okE 320 len : Nat)]) ∧ w'.ownsRow V.heap.size 5 1 r (okN 320 len) (bytesL (okN 320 len) (cellF 0 headO len p)) ∧ Below V.heap.size V w' := by
  have HV : Hid (SliceZ V v len p) := hv
  obtain ⟨ao, cap, rfl⟩ := hv.shape
  have lb : (len : Int) ≤ 140737488351232 := by omega
  clear hv
  by_cases h : len ≤ 320
  · have i1 : ¬ (len : Int) > 320 := by omega
    rw [show okN 320 len = 320 from if_pos h, show okE 320 len = 0 from if_pos h]
    go_enter Try.func30, Try.ntmps30
    go_wp2_with (go_at_call 37; refine (fill_any p len _ V HV.out h).mono ?_; rintro e w1 ⟨r, rfl, own, hb1⟩)
    refine bodyPost_ret (results_tmp2 rfl _ _ _) rfl ⟨_, rfl, own, hb1⟩
  · have i1 : (len : Int) > 320 := by omega
    rw [show okN 320 len = 0 from if_neg h, show okE 320 len = 1 from if_neg h]
    go_enter Try.func30, Try.ntmps30
    go_wp2
    refine bodyPost_ret (results_tmp2 rfl _ _ _) rfl ⟨_, rfl, World.ownsRow_nil _ _ _ _, Below.refl _ _⟩
theorem join_slice {W : World} {v : Value} {hl len : Nat} {h p : Nat → Nat} (hv : SliceN W v len p) : SliceN W v len fun j => joinF hl h p (hl + j) := sliceN_cg hv fun j _ => by
  unfold joinF
  rw [if_neg (by omega), show hl + j - hl = j by omega]
theorem joinF_lt {hl : Nat} {h p : Nat → Nat} {len : Nat} (hh : ∀ j, j < hl → h j < 256) (hp : ∀ j, j < len → p j < 256) : ∀ j, j < hl + len → joinF hl h p j < 256 := by
  intro j hj
  unfold joinF
  split
  · exact hh j (by assumption)
  · exact hp _ (by omega)
theorem own_head1 (W : World) (x : Nat) (p : Nat → Nat) (h : Nat → Nat) (h0 : h 0 = x) : (W.alloc (.cells #[.int .u8 x] 5)).ownsRow W.heap.size 5 1 (.slice (some ⟨W.heap.size, 0, none⟩) 1 1) 1 (bytesL 1 (joinF 1 h p)) := by
  refine own_full (n := 1) ?_ (Nat.le_refl _) (by omega)
  rw [heapNew]
  show some (Obj.cells #[.int .u8 x] 5) = some (Obj.cells #[.int .u8 (joinF 1 h p 0 : Nat)] 5)
  unfold joinF
  rw [if_pos (by omega), h0]

set_option maxRecDepth 20000 in
set_option maxHeartbeats 400000 in
theorem rnoise_any (p : Nat → Nat) (len : Nat) (v : Value) (V : World) (hv : SliceZ V v len p) (hl : len ≤ 140737488351232) :
    Calls Try.prog 29 #[v] V fun e w' => ∃ r, e = .returned (.tuple #[r, .int .i64 (okE 319 len : Nat)]) ∧ w'.ownsRow V.heap.size 5 1 r (okN 319 len) (bytesL (okN 319 len) (cellF 1 headO len p)) ∧ Below V.heap.size V w' := by
  have HV : Hid (SliceZ V v len p) := hv
  obtain ⟨ao, cap, rfl⟩ := hv.shape
  have lb : (len : Int) ≤ 140737488351232 := by omega
  clear hv
  by_cases h : len ≤ 319
  · have i1 : ¬ (len : Int) > 319 := by omega
    have HH : Hid (len ≤ 319) := h
    rw [show okN 319 len = 320 from if_pos h, show okE 319 len = 0 from if_pos h]
    have ow := own_head1 V 0 p headO rfl
    have JB : Hid (∀ j, j < 1 + len → joinF 1 headO p j < 256) := joinF_lt (fun j _ => by unfold headO; omega) HV.out.sl.bytes
    have OW : Hid (_) := ow
    clear ow h
    go_enter Try.func29, Try.ntmps29
    go_wp2_with (first
      | (refine atAppB (.tmp 7) (.tmp 8) rfl ?_; go_must (refine By8.wpList_appS (B := V.heap.size) (n := 1) (m := len) (p := joinF 1 headO p) rfl (.tmp 7) (.tmp 8) rfl rfl rfl OW.out (join_slice (HV.out.sl.on (belNew V _))) HV.out.nil (by have := HH.out; omega) (by simp) ?_; intro u1 W1 own1 gr1; have b1 : Below V.heap.size V W1 := below_grown (belNew V _) (by simp) OW.out gr1; clear gr1))
      | (go_at_call 37; refine (fill_any (joinF 1 headO p) (1 + len) u1 W1 (own_sliceZ own1 JB.out) (by have := HH.out; omega)).mono ?_; rintro e w1 ⟨r, rfl, own, hb1⟩))
    rw [cellF_join] at own
    refine bodyPost_ret (results_tmp2 rfl _ _ _) rfl ⟨_, rfl, own_base own b1.size, b1.trans (hb1.mono b1.size)⟩
  · have i1 : (len : Int) > 319 := by omega
    rw [show okN 319 len = 0 from if_neg h, show okE 319 len = 1 from if_neg h]
    go_enter Try.func29, Try.ntmps29
    go_wp2
    refine bodyPost_ret (results_tmp2 rfl _ _ _) rfl ⟨_, rfl, World.ownsRow_nil _ _ _ _, Below.refl _ _⟩
end Go.Proofs.Ytmfaapbhehhlpaa.Cel
