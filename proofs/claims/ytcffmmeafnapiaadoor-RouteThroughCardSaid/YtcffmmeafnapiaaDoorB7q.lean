import Derived.Test.YtcffmmeafnapiaaDoorB7m
import Derived.Test.YtcffmmeafnapiaaDoorB7p
namespace Go.Proofs.YtcffmmeafnapiaaDoor.Rou
open Go.RowKit Gf8 Aes By8 Cel Oni
/- right; the rest of a chain. -/

set_option maxRecDepth 20000 in
set_option maxHeartbeats 4000000 in
theorem right_any (kv nv pv : Value) (h hn n : Nat) (xv : Nat → Value) (lk : Nat → Nat) (key q : Nat → Nat → Nat) (p : Nat → Nat) (V : World) (hc : Cells V kv h xv lk key) (hq : Nons V nv hn q) (hp : SliceZ V pv n p) (hb1 : h ≤ 140737488351232) (hb2 : hn ≤ 140737488351232) (hb3 : n ≤ 140737488351232) :
    Calls Tryd.prog 13 #[.agg (hC kv nv pv)] V fun e w' => e = .returned (.bool (decide (rwE h hn lk n = 0))) ∧ Below V.heap.size V w' := by
  obtain ⟨V1, hV1⟩ : ∃ V1, V.alloc (.cells (hC kv nv pv) 33) = V1 := ⟨_, rfl⟩
  have r1 := heapNew V (.cells (hC kv nv pv) 33)
  have b1 := belNew V (.cells (hC kv nv pv) 33)
  rw [hV1] at r1 b1
  obtain ⟨c0, c1, c2⟩ := hC_at r1
  obtain ⟨ka, kc, rfl, _, _, hs⟩ := id hc.shape
  obtain ⟨na, nc, rfl, _⟩ := id hq.shape
  obtain ⟨pa, pc, rfl⟩ := id hp.shape
  have B1 : Hid (Below V.heap.size V V1) := b1
  have l1 : (h : Int) ≤ 140737488351232 := by omega
  have l2 : (hn : Int) ≤ 140737488351232 := by omega
  have l3 : (n : Int) ≤ 140737488351232 := by omega
  by_cases h1 : h < 1
  · have E : rwE h hn lk n ≠ 0 := by unfold rwE; rw [if_pos (by omega)]; simp
    rw [decide_eq_false E]
    have i1 : (h : Int) < 1 := by omega
    clear E hc hq hp hb1 hb2 hb3 r1 b1 hs h1
    go_enter Tryd.func13, Tryd.ntmps13
    go_wp2_with fail
    go_ret
    exact ⟨rfl, B1.out⟩
  · have i1 : ¬ (h : Int) < 1 := by omega
    by_cases h8 : 8 < h
    · have E : rwE h hn lk n ≠ 0 := by unfold rwE; rw [if_pos (by omega)]; simp
      rw [decide_eq_false E]
      have i2 : (h : Int) > 8 := by omega
      clear E hc hq hp hb1 hb2 hb3 r1 b1 hs h1 h8
      go_enter Tryd.func13, Tryd.ntmps13
      go_wp2_with fail
      go_ret
      exact ⟨rfl, B1.out⟩
    · have i2 : ¬ (h : Int) > 8 := by omega
      by_cases hne : hn = h
      · obtain rfl : h = hn := hne.symm
        have i3 : ((h : Int) != (h : Int)) = false := by simp
        by_cases hlong : 48 < n
        · have E : rwE h h lk n ≠ 0 := by
            intro e
            have := (rwE_ok e).2.2.2.2
            omega
          rw [decide_eq_false E]
          have i4 : (n : Int) > 48 := by omega
          clear E hc hq hp hb1 hb2 hb3 r1 b1 hs h1 h8 hlong
          go_enter Tryd.func13, Tryd.ntmps13
          go_wp2_with fail
          go_ret
          exact ⟨rfl, B1.out⟩
        · have i4 : ¬ (n : Int) > 48 := by omega
          obtain ⟨kb, ko, rfl, hs1, hs2⟩ := hs (by omega)
          have KK : Hid (kb < V.heap.size ∧ ∀ i, i < h → V.cell? ⟨kb, ko + i, none⟩ = some (xv i)) := ⟨hs1, hs2⟩
          have HC : Hid (Cells V (.slice (some ⟨kb, ko, none⟩) h kc) h xv lk key ∧ 1 ≤ h ∧ h ≤ 8 ∧ n ≤ 48) := ⟨hc, by omega, by omega, by omega⟩
          have i9 : (h : Int) ≤ 8 := by omega
          have R1 : Hid (V1.heap[V.heap.size]? = some (.cells (hC (.slice (some ⟨kb, ko, none⟩) h kc) (.slice na h nc) (.slice pa n pc)) 33)) := r1
          clear hc hq hp hb1 hb2 hb3 r1 b1 hs hs1 hs2 h1 h8 hlong
          go_enter Tryd.func13, Tryd.ntmps13
          go_wp2_with fail
          go_loopw [3] (fun z W => ∃ i : Nat, i ≤ h ∧ z = .int .i64 (i : Int) ∧ (∀ k, k < i → lk k = 32) ∧ W = V1) (fun z _ => h - (intOf z).toNat)
          case atStart => exact ⟨0, Nat.zero_le _, rfl, fun k hk => by omega, rfl⟩
          case round =>
            obtain ⟨i, hi, rfl, hk, hw⟩ := hrel
            rw [hw]
            clear hw
            by_cases hlt : i < h
            · have j1 : (i : Int) < h := by omega
              have d1 : V1.cell? ⟨kb, ko + i, none⟩ = some (xv i) := by rw [cell_below B1.out KK.out.1]; exact KK.out.2 i hlt
              obtain ⟨ya, yc, ey, _⟩ := (HC.out.1.cell i hlt).shape
              have HK : Hid ((∀ k, k < i → lk k = 32) ∧ i < h) := ⟨hk, hlt⟩
              by_cases h32 : lk i = 32
              · have i5 : ((lk i : Int) != 32) = false := by simp; omega
                have H32 : Hid (lk i = 32) := h32
                rw [ey] at d1
                clear hk hlt hi ey h32
                go_wp2_with (first
                  | (refine wpList_ex rfl (execIdxL (x := .tmp 37) (k := i) rfl rfl rfl HK.out.2) ?_)
                  | (refine wpList_ex rfl (execLdL (x := .tmp 39) rfl rfl d1) ?_))
                go_roundw
                case rel => exact ⟨i + 1, HK.out.2, by go_num, fun k hk => by
                  by_cases e : k = i
                  · rw [e]; exact H32.out
                  · exact HK.out.1 k (by omega), by first | trivial | rfl⟩
                case measure => have := HK.out.2; simp [intOf]; omega
              · have i5 : ((lk i : Int) != 32) = true := by simp; omega
                have EE : Hid (¬ rwE h h lk n = 0) := fun e => h32 ((rwE_ok e).2.2.2.1 i hlt)
                rw [ey] at d1
                clear hk hlt hi ey h32
                go_wp2_with (first
                  | (refine wpList_ex rfl (execIdxL (x := .tmp 37) (k := i) rfl rfl rfl HK.out.2) ?_)
                  | (refine wpList_ex rfl (execLdL (x := .tmp 39) rfl rfl d1) ?_))
                go_ret
                exact ⟨by rw [decide_eq_false EE.out]; rfl, B1.out⟩
            · have j1 : ¬ (i : Int) < h := by omega
              have EE : Hid (rwE h h lk n = 0) := rwE_is HC.out.2.1 HC.out.2.2.1 rfl (fun k q => hk k (by omega)) HC.out.2.2.2
              clear hk hlt hi
              go_wp2_with fail
              go_ret
              exact ⟨by rw [decide_eq_true EE.out]; rfl, B1.out⟩
      · have i3 : ((hn : Int) != (h : Int)) = true := by simp; omega
        have E : rwE h hn lk n ≠ 0 := by unfold rwE; rw [if_pos (by omega)]; simp
        rw [decide_eq_false E]
        clear E hc hq hp hb1 hb2 hb3 r1 b1 hs h1 h8
        go_enter Tryd.func13, Tryd.ntmps13
        go_wp2_with fail
        go_ret
        exact ⟨rfl, B1.out⟩
/-- The rest of a chain's keys and nonces. -/
theorem cells_rest {W : World} {b off h cap : Nat} {xv : Nat → Value} {lk : Nat → Nat} {key : Nat → Nat → Nat} (hc : Cells W (.slice (some ⟨b, off, none⟩) (h + 1) cap) (h + 1) xv lk key) (h1 : 1 ≤ h) : Cells W (.slice (some ⟨b, off + 1, none⟩) h (cap - 1)) h (fun i => xv (i + 1)) (fun i => lk (i + 1)) fun i => key (i + 1) := by
  obtain ⟨a, c, e, e1, e2, e3⟩ := hc.shape
  injection e with x y z
  subst x z
  obtain ⟨b', o', e4, hb, hcell⟩ := e3 (by omega)
  injection e4 with e4
  injection e4 with e5 e6
  subst e5 e6
  refine ⟨⟨_, _, rfl, by omega, by omega, fun _ => ⟨_, _, rfl, hb, fun i hi => ?_⟩⟩, fun i hi => hc.cell (i + 1) (by omega), fun i hi => hc.nil (i + 1) (by omega), fun i hi => hc.lens (i + 1) (by omega)⟩
  rw [show off + 1 + i = off + (i + 1) by omega]
  exact hcell (i + 1) (by omega)
theorem nons_rest {W : World} {b off h cap : Nat} {q : Nat → Nat → Nat} (hc : Nons W (.slice (some ⟨b, off, none⟩) (h + 1) cap) (h + 1) q) (h1 : 1 ≤ h) : Nons W (.slice (some ⟨b, off + 16, none⟩) h (cap - 1)) h fun i => q (i + 1) := by
  obtain ⟨a, c, e, e1, e2, e3⟩ := hc.shape
  injection e with x y z
  subst x z
  obtain ⟨b', o', e4, hb, hcell⟩ := e3 (by omega)
  injection e4 with e4
  injection e4 with e5 e6
  subst e5 e6
  refine ⟨⟨_, _, rfl, by omega, by omega, fun _ => ⟨_, _, rfl, hb, fun i hi j hj => ?_⟩⟩, fun i hi => hc.by_ (i + 1) (by omega)⟩
  rw [show off + 16 + i * 16 + j = off + (i + 1) * 16 + j by omega]
  exact hcell (i + 1) (by omega) j hj
theorem sl1L (b off len cap : Nat) (h : 1 ≤ len) (hc : 1 < cap) (W : World) : (Instr.sliceAt 30 (.slice (some ⟨b, off, none⟩) len cap) (some (.int .i64 1)) none none).run Tryd.prog W = .ok (.slice (some ⟨b, off + 1, none⟩) (len - 1) (cap - 1)) W := by
  have e1 : (1 : Int) ≤ len := by omega
  have e2 : ¬ cap = 1 := by omega
  simp [Instr.sliceAt, Instr.slice, run_underlying Tryd.underlying30, Instr.sliceBounds, run_sliceBound, e1, e2, Addr.add_mid]
theorem sl1A (b off len cap : Nat) (h : 1 ≤ len) (hc : 1 < cap) (W : World) : (Instr.sliceAt 31 (.slice (some ⟨b, off, none⟩) len cap) (some (.int .i64 1)) none none).run Tryd.prog W = .ok (.slice (some ⟨b, off + 16, none⟩) (len - 1) (cap - 1)) W := by
  have e1 : (1 : Int) ≤ len := by omega
  have e2 : ¬ cap = 1 := by omega
  simp [Instr.sliceAt, Instr.slice, run_underlying Tryd.underlying31, Instr.sliceBounds, run_sliceBound, e1, e2, Addr.add_mid]
theorem size3 (kv nv pv : Value) : (Tryd.prog.info? 33).map (·.size) = some (hC kv nv pv).size := by
  show _ = some 3
  kernel_rfl
end Go.Proofs.YtcffmmeafnapiaaDoor.Rou
