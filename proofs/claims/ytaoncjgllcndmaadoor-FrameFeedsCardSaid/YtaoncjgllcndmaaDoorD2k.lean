import Derived.Test.YtaoncjgllcndmaaDoorD2j
namespace Go.Proofs.YtaoncjgllcndmaaDoor.Frm
open Go.RowKit Gf8 Aes By8 Cel
/- withNumber, sound, the closure of packed. -/

/-- A list of one's own has grown, it alone: from (v, W) to (v', W'). -/
structure Grew (B : Nat) (v : Value) (W : World) (v' : Value) (W' : World) : Prop where
  sv : Saved (fun k => v.ownBlock = some k) W W'
  to : v'.ownBlock = v.ownBlock ∨ ∃ k, v'.ownBlock = some k ∧ W.heap.size ≤ k
theorem Grew.refl (B : Nat) (v : Value) (W : World) : Grew B v W v W := ⟨Saved.refl _ _, Or.inl rfl⟩
theorem Grew.new {B : Nat} {v v' : Value} {W W' : World} (h : Grew B v W v' W') (o : Obj) : Grew B v W v' (W'.alloc o) := ⟨h.sv.below (belNew W' o) h.sv.size, h.to⟩
theorem Grew.step {B : Nat} {v v' v'' : Value} {W W' W'' : World} (h : Grew B v W v' W') (hg : (v''.ownBlock = v'.ownBlock ∧ W'.grownBy W'' v'.ownBlock) ∨ (v''.ownBlock = some W'.heap.size ∧ W'.grownBy W'' none)) : Grew B v W v'' W'' := by
  refine ⟨h.sv.grown (grown_row hg) fun k hk => ?_, ?_⟩
  · rcases h.to with e | ⟨k', e, hk'⟩
    · exact Or.inr (by rw [← e]; exact hk)
    · rw [e] at hk
      injection hk with hk
      exact Or.inl (by omega)
  · rcases hg with ⟨e, _⟩ | ⟨e, _⟩
    · rw [e]; exact h.to
    · exact Or.inr ⟨_, e, h.sv.size⟩
theorem Grew.trans {B : Nat} {v v' v'' : Value} {W W' W'' : World} (h : Grew B v W v' W') (h' : Grew B v' W' v'' W'') : Grew B v W v'' W'' := by
  refine ⟨⟨h'.sv.os.trans h.sv.os, h'.sv.tape.trans h.sv.tape, h'.sv.output.trans h.sv.output, Nat.le_trans h.sv.size h'.sv.size, fun k hk hG => ?_⟩, ?_⟩
  · rw [h'.sv.block k (Nat.lt_of_lt_of_le hk h.sv.size) ?_, h.sv.block k hk hG]
    intro e
    rcases h.to with e1 | ⟨k', e1, hk'⟩
    · exact hG (by rw [← e1]; exact e)
    · rw [e1] at e
      injection e with e
      omega
  · rcases h'.to with e | ⟨k, e, hk⟩
    · rw [e]; exact h.to
    · exact Or.inr ⟨k, e, Nat.le_trans h.sv.size hk⟩
set_option maxRecDepth 20000 in
set_option maxHeartbeats 400000 in
theorem with_any (n k m B : Nat) (p : Nat → Nat) (v : Value) (V : World) (hn : n < 18446744073709551616) (hk : k ≤ 8) (hv : V.ownsRow B 5 1 v m (bytesL m p)) (hB : B ≤ V.heap.size) (hm : m ≤ 100000000) (hp : ∀ j, j < k → p (m + j) = numF n k j) :
    Calls Tryd.prog 41 #[v, .int .u64 n, .int .i64 k] V fun e w' => ∃ r, e = .returned r ∧ w'.ownsRow B 5 1 r (m + k) (bytesL (m + k) p) ∧ Grew B v V r w' := by
  have HN : Hid (n < 18446744073709551616 ∧ k ≤ 8 ∧ m ≤ 100000000 ∧ B ≤ V.heap.size ∧ V.ownsRow B 5 1 v m (bytesL m p) ∧ ∀ j, j < k → p (m + j) = numF n k j) := ⟨hn, hk, hm, hB, hv, hp⟩
  have lk : (k : Int) ≤ 8 := by omega
  have ln : (n : Int) < 18446744073709551616 := by omega
  clear hn hk hv hB hm hp
  go_enter Tryd.func41, Tryd.ntmps41
  go_wp2_with fail
  go_loopw [0, 7] (fun u x W => ∃ j : Nat, j ≤ k ∧ x = .int .i64 ((k : Int) - 1 - j) ∧ W.ownsRow B 5 1 u (m + j) (bytesL (m + j) p) ∧ Grew B v V u W) (fun u _ _ => m + k - lenV u)
  case atStart => exact ⟨0, Nat.zero_le _, by go_num, HN.out.2.2.2.2.1, Grew.refl _ _ _⟩
  case round =>
    obtain ⟨j, hj, rfl, own, gr⟩ := hrel
    obtain ⟨ao, cp, rfl⟩ := own_shapeJ own
    by_cases hlt : j < k
    · obtain ⟨i, hi⟩ : ∃ i : Nat, k - 1 - j = i := ⟨_, rfl⟩
      have e1 : (k : Int) - 1 - j = i := by omega
      rw [e1]
      have i1 : (i : Int) ≥ 0 := by omega
      have i2 : (i : Int) ≤ 7 := by omega
      have HK : Hid (j < k ∧ k - 1 - j = i) := ⟨hlt, hi⟩
      have OW : Hid (_) := own
      have GR : Hid (Grew B v V _ wr) := gr
      clear own gr hj hlt hi e1
      have EQ : Hid ((n : Int) / 2 ^ (8 * i) % 256 = (p (m + j) : Nat)) := by
        show (n : Int) / 2 ^ (8 * i) % 256 = (p (m + j) : Nat)
        rw [HN.out.2.2.2.2.2 j HK.out.1]
        unfold numF
        rw [HK.out.2, show (256 : Nat) ^ i = 2 ^ (8 * i) by rw [show (256 : Nat) = 2 ^ 8 from rfl, ← Nat.pow_mul]]
        simp
      go_wp2_with (refine atAppB (.tmp 14) (.tmp 20) rfl ?_; go_must (rw [EQ.out]; refine wpList_appP (B := B) (n := m + j) (g := wr.heap.size) (p := p) rfl (.tmp 14) (.tmp 20) rfl rfl rfl (ownsRow_below OW.out (belNew wr _)) (heapNew wr _) (by have := HK.out; have := HN.out; omega) (by have := GR.out.sv.size; have := HN.out.2.2.2.1; simp; omega) ?_; intro u2 W2 own2 g2; have G2 : Hid (_) := (GR.out.new (.cells #[.int .u8 (p (m + j) : Nat)] 5)).step g2; obtain ⟨a2, c2, rfl⟩ := own_shapeJ own2; clear g2))
      go_roundw
      case rel => exact ⟨j + 1, by have := HK.out; omega, by have := HK.out; have := HN.out; go_num, own2, G2.out⟩
      case measure => have := HK.out; show m + k - (m + j + 1) < m + k - (m + j); omega
    · have ek : j = k := by omega
      subst ek
      rw [show ((j : Int) - 1 - j) = -1 by omega]
      have OW : Hid (_) := own
      have GR : Hid (Grew B v V _ wr) := gr
      clear own gr
      go_wp2
      go_ret
      exact ⟨_, rfl, OW.out, GR.out⟩
set_option maxRecDepth 20000 in
set_option maxHeartbeats 400000 in
theorem sound_any (rd ep lf : Int) (V : World) : Calls Tryd.prog 29 #[.agg (hC rd ep lf)] V fun e w' => e = .returned (.bool (hdOk rd ep lf)) ∧ Below V.heap.size V w' := by
  have h1 := heapNew V (.cells (hC rd ep lf) 23)
  have c0 : (V.alloc (.cells (hC rd ep lf) 23)).cell? ⟨V.heap.size, 0, none⟩ = some (.int .i64 rd) := by rw [cell_of_row _ _ _ _ _ _ h1]; rfl
  have c1 : (V.alloc (.cells (hC rd ep lf) 23)).cell? ⟨V.heap.size, 1, none⟩ = some (.int .i64 ep) := by rw [cell_of_row _ _ _ _ _ _ h1]; rfl
  have c2 : (V.alloc (.cells (hC rd ep lf) 23)).cell? ⟨V.heap.size, 2, none⟩ = some (.int .i64 lf) := by rw [cell_of_row _ _ _ _ _ _ h1]; rfl
  clear h1
  go_enter Tryd.func29, Tryd.ntmps29
  have HO : Hid (hdOk rd ep lf = true ↔ 0 ≤ lf ∧ lf ≤ 8 ∧ 0 ≤ rd ∧ rd ≤ 4611686018427387903 ∧ 0 ≤ ep ∧ ep ≤ 4611686018427387904) := by
    show hdOk rd ep lf = true ↔ 0 ≤ lf ∧ lf ≤ 8 ∧ 0 ≤ rd ∧ rd ≤ 4611686018427387903 ∧ 0 ≤ ep ∧ ep ≤ 4611686018427387904
    unfold hdOk
    simp
    omega
  go_wp2
  all_goals
    go_ret
    refine ⟨?_, belNew _ _⟩
    show Ending.returned (Value.bool _) = _
    refine congrArg (fun b => Ending.returned (Value.bool b)) ?_
    rw [Bool.eq_iff_iff, HO.out]
    simp
    try omega
end Go.Proofs.YtaoncjgllcndmaaDoor.Frm
