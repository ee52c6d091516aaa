import Derived.Test.YtdkkbgokemimfaaDoorD2m
namespace Go.Proofs.YtdkkbgokemimfaaDoor.Frm
open Go.RowKit Gf8 Aes By8 Cel
/- Pack. -/

theorem good_of {rd ep lf : Int} {n : Nat} (h : hdOk rd ep lf = true) (hn : n ≤ 256) : ∃ r e l : Nat, rd = r ∧ ep = e ∧ lf = l ∧ Good r e l n := by
  unfold hdOk at h
  simp at h
  exact ⟨rd.toNat, ep.toNat, lf.toNat, by omega, by omega, by omega, ⟨by omega, by omega, by omega, hn⟩⟩
set_option maxRecDepth 20000 in
set_option maxHeartbeats 1000000 in
theorem ppack_any (rd ep lf : Int) (n : Nat) (cv : Value) (xv : Nat → Value) (ln : Nat → Nat) (c : Nat → Nat → Nat) (V : World) (g : Rules V) (hc : Cells V cv n xv ln c) (hn : n ≤ 140737488351232) :
    Calls Tryd.prog 13 #[.agg (bC rd ep lf cv)] V fun e w' => ∃ r, e = .returned (.tuple #[r, .int .i64 (packE rd ep lf n ln : Nat)]) ∧ w'.ownsRow V.heap.size 5 1 r (packN rd ep lf n ln) (bytesL (packN rd ep lf n ln) (packI rd ep lf n c)) ∧ Below V.heap.size V w' := by
  obtain ⟨ca, ccap, rfl, _, _, hs⟩ := id hc.shape
  obtain ⟨A, hA⟩ : ∃ A, V.heap.size = A := ⟨_, rfl⟩
  have h1 := heapNew V (.cells (bC rd ep lf (.slice ca n ccap)) 26)
  have b1 := belNew V (.cells (bC rd ep lf (.slice ca n ccap)) 26)
  obtain ⟨V1, hV1⟩ : ∃ V1, V.alloc (.cells (bC rd ep lf (.slice ca n ccap)) 26) = V1 := ⟨_, rfl⟩
  rw [hV1, hA] at h1 b1
  have HB : Hid (Rules V ∧ Cells V (.slice ca n ccap) n xv ln c ∧ V.heap.size = A ∧ n ≤ 140737488351232) := ⟨g, hc, hA, hn⟩
  have s1 : V1.heap.size = A + 1 := by rw [← hV1, ← hA]; simp
  have H1 : Hid (V1.heap[A]? = some (.cells (bC rd ep lf (.slice ca n ccap)) 26) ∧ Below A V V1 ∧ V1.heap.size = A + 1) := ⟨h1, b1, s1⟩
  have HS : Hid (0 < n → ∃ b off, ca = some ⟨b, off, none⟩ ∧ b < V.heap.size ∧ ∀ i, i < n → V.cell? ⟨b, off + i, none⟩ = some (xv i)) := hs
  have nn : (n : Int) ≤ 140737488351232 := by omega
  clear g hc hs h1 b1 s1 hn
  by_cases hh : hdOk rd ep lf = true
  · by_cases h256 : n ≤ 256
    · have i2 : ¬ (n : Int) > 256 := by omega
      have HH : Hid (hdOk rd ep lf = true ∧ n ≤ 256) := ⟨hh, h256⟩
      go_enter Tryd.func13, Tryd.ntmps13
      go_wp2_with (first
        | (refine atLoad 23 (.tmp 6) rfl ?_; go_must (refine wpList_ex rfl (execLoadMid (cs := [.int .i64 rd, .int .i64 ep, .int .i64 lf]) rfl rfl (range_bh H1.out.1) Tryd.underlying23 rfl (by kernel_rfl)) ?_))
        | (go_at_call 29; refine (sound_any rd ep lf _).mono ?_; rintro e w1 ⟨rfl, b1⟩; rw [HH.out.1]; have hb : w1.heap[A]? = some (.cells (bC rd ep lf (.slice ca n ccap)) 26) := (by rw [b1.block _ (by have := H1.out.2.2; omega)]; exact H1.out.1); obtain ⟨_, _, _, k3⟩ := bC_at _ _ _ _ hb; have W1 : Hid (w1.heap[A]? = some (.cells (bC rd ep lf (.slice ca n ccap)) 26) ∧ Below A V w1 ∧ A < w1.heap.size) := ⟨hb, H1.out.2.1.trans (b1.mono (by have := H1.out.2.2; omega)), (Array.getElem?_eq_some_iff.1 hb).1⟩; clear hb b1))
      clear hh h256
      go_loopw [17] (fun z W => ∃ (i : Nat), i ≤ n ∧ z = .int .i64 (i : Int) ∧ (∀ j, j < i → ln j = 320) ∧ W = w1) (fun z _ => n - (intOf z).toNat)
      case atStart => exact ⟨0, Nat.zero_le _, rfl, fun j h => by omega, rfl⟩
      case round =>
        obtain ⟨i, hi, rfl, hal, rfl⟩ := hrel
        by_cases hlt : i < n
        · have i1 : (i : Int) < n := by omega
          obtain ⟨b, off, rfl, hb, hcell⟩ := HS.out (by omega)
          have c1 : wr.cell? ⟨b, off + i, none⟩ = some (xv i) := by rw [cell_below W1.out.2.1 (by have := HB.out.2.2.1; omega)]; exact hcell i hlt
          have sl := HB.out.2.1.cell i hlt
          obtain ⟨ua, uc, eu, _⟩ := sl.shape
          rw [eu] at c1
          have ul := HB.out.2.1.lens i hlt
          have u1 : (ln i : Int) ≤ 140737488351232 := by omega
          have HK : Hid (i < n ∧ ∀ j, j < i → ln j = 320) := ⟨hlt, hal⟩
          by_cases h3 : ln i = 320
          · have i3 : ((ln i : Int) != 320) = false := by simp; omega
            have H3 : Hid (ln i = 320) := h3
            clear hlt hi hal hb hcell sl eu ul h3
            go_wp2
            go_roundw
            case rel => exact ⟨i + 1, HK.out.1, by go_num, fun j hj => by
              by_cases e : j = i
              · rw [e]; exact H3.out
              · exact HK.out.2 j (by omega), by first | rfl | trivial⟩
            case measure => have := HK.out.1; simp [intOf]; omega
          · have i3 : ((ln i : Int) != 320) = true := by simp; omega
            have H3 : Hid (ln i ≠ 320) := h3
            clear hlt hi hal hb hcell sl eu ul h3
            go_wp2
            go_ret2
            have eE : packE rd ep lf n ln = 64 := by
              unfold packE
              rw [if_pos HH.out.1, if_pos HH.out.2, if_neg]
              intro q
              exact H3.out ((allC_iff n ln).1 q i HK.out.1)
            have eN : packN rd ep lf n ln = 0 := by unfold packN; rw [eE]; rfl
            rw [eE, eN, HB.out.2.2.1]
            exact ⟨_, rfl, World.ownsRow_nil _ _ _ _, W1.out.2.1⟩
        · have ei : i = n := by omega
          subst ei
          have i1 : ¬ (i : Int) < i := by omega
          obtain ⟨r, e, l, rfl, rfl, rfl, gd⟩ := good_of HH.out.1 HH.out.2
          have HG : Hid (Good r e l i ∧ ∀ j, j < i → ln j = 320) := ⟨gd, hal⟩
          clear hi hlt hal gd
          go_wp2_with (first
            | (refine atLoad 26 (.tmp 1) rfl ?_; go_must (refine wpList_load_row rfl 26 (.tmp 1) rfl A rfl 26 _ (0, 0) _ W1.out.1 Tryd.underlying26 rfl (sizeB _ _ _ _) ?_; simp only [Act.put, List.setIfInBounds_toArray, List.set_cons_succ, List.set_cons_zero]))
            | (go_at_call 30; refine (packed_any r e l i _ xv ln c wr (HB.out.1.on W1.out.2.1 (by have := HB.out.1.sz; have := HB.out.2.2.1; omega)) HG.out.1 (HB.out.2.1.on (by rw [HB.out.2.2.1]; exact W1.out.2.1)) HG.out.2).mono ?_; rintro e' w2 ⟨u, rfl, own, b2⟩))
          go_ret2
          have eE : packE r e l i ln = 0 := by
            unfold packE
            rw [if_pos HH.out.1, if_pos HH.out.2, if_pos ((allC_iff i ln).2 HG.out.2)]
          have eN : packN r e l i ln = cellAt i + 4 := by unfold packN; rw [eE]; rfl
          rw [eE, eN, HB.out.2.2.1]
          have lA := W1.out.2.2
          exact ⟨_, rfl, own_base own (by omega), W1.out.2.1.trans (b2.mono (by omega))⟩
    · have i2 : (n : Int) > 256 := by omega
      have eE : packE rd ep lf n ln = 63 := by unfold packE; rw [if_pos hh, if_neg h256]
      have eN : packN rd ep lf n ln = 0 := by unfold packN; rw [eE]; rfl
      rw [eE, eN]
      clear eE eN h256 HS
      have HH : Hid (hdOk rd ep lf = true) := hh
      clear hh
      go_enter Tryd.func13, Tryd.ntmps13
      go_wp2_with (first
        | (refine atLoad 23 (.tmp 6) rfl ?_; go_must (refine wpList_ex rfl (execLoadMid (cs := [.int .i64 rd, .int .i64 ep, .int .i64 lf]) rfl rfl (range_bh H1.out.1) Tryd.underlying23 rfl (by kernel_rfl)) ?_))
        | (go_at_call 29; refine (sound_any rd ep lf _).mono ?_; rintro e w1 ⟨rfl, b1⟩; rw [HH.out]; have hb : w1.heap[A]? = some (.cells (bC rd ep lf (.slice ca n ccap)) 26) := (by rw [b1.block _ (by have := H1.out.2.2; omega)]; exact H1.out.1); obtain ⟨_, _, _, k3⟩ := bC_at _ _ _ _ hb; have W1 : Hid (Below A V w1) := H1.out.2.1.trans (b1.mono (by have := H1.out.2.2; omega)); clear hb b1))
      go_ret2
      rw [HB.out.2.2.1]
      exact ⟨_, rfl, World.ownsRow_nil _ _ _ _, W1.out⟩
  · have hf : hdOk rd ep lf = false := by simpa using hh
    have eE : packE rd ep lf n ln = 62 := by unfold packE; rw [if_neg hh]
    have eN : packN rd ep lf n ln = 0 := by unfold packN; rw [eE]; rfl
    rw [eE, eN]
    have HH : Hid (hdOk rd ep lf = false) := hf
    clear eE eN HS hh hf
    go_enter Tryd.func13, Tryd.ntmps13
    go_wp2_with (first
      | (refine atLoad 23 (.tmp 6) rfl ?_; go_must (refine wpList_ex rfl (execLoadMid (cs := [.int .i64 rd, .int .i64 ep, .int .i64 lf]) rfl rfl (range_bh H1.out.1) Tryd.underlying23 rfl (by kernel_rfl)) ?_))
      | (go_at_call 29; refine (sound_any rd ep lf _).mono ?_; rintro e w1 ⟨rfl, b1⟩; rw [HH.out]; have W1 : Hid (Below A V w1) := H1.out.2.1.trans (b1.mono (by have := H1.out.2.2; omega)); clear b1))
    go_ret2
    rw [HB.out.2.2.1]
    exact ⟨_, rfl, World.ownsRow_nil _ _ _ _, W1.out⟩
end Go.Proofs.YtdkkbgokemimfaaDoor.Frm
