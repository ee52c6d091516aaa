import Derived.Test.YthmlfglllhmimaaGreatDoorD2m
namespace Go.Proofs.YthmlfglllhmimaaGreatDoor.Frm
open Go.RowKit Gf8 Aes By8 Cel
/- Pack. -/

theorem good_of {rd ep lf : Int} {n : Nat} (h : hdOk rd ep lf = true) (hn : n ≤ 256) : ∃ r e l : Nat, rd = r ∧ ep = e ∧ lf = l ∧ Good r e l n := by
  unfold hdOk at h
  simp at h
  exact ⟨rd.toNat, ep.toNat, lf.toNat, by omega, by omega, by omega, ⟨by omega, by omega, by omega, hn⟩⟩
set_option maxRecDepth 20000 in
set_option maxHeartbeats 1000000 in
theorem ppack_any (rd ep lf : Int) (n : Nat) (cv : Value) (xv : Nat → Value) (ln : Nat → Nat) (c : Nat → Nat → Nat) (V : World) (g : Rules V) (hc : Cells V cv n xv ln c) (hn : n ≤ 140737488351232) :
    Calls Tryz.prog 14 #[.agg (bC rd ep lf cv)] V fun e w' => ∃ r, e = .returned (.tuple #[r, .int .i64 (packE rd ep lf n ln : Nat)]) ∧ w'.ownsRow V.heap.size 5 1 r (packN rd ep lf n ln) (bytesL (packN rd ep lf n ln) (packI rd ep lf n c)) ∧ Below V.heap.size V w' := by
  obtain ⟨ca, ccap, rfl, _, _, hs⟩ := id hc.shape
  obtain ⟨A, hA⟩ : ∃ A, V.heap.size = A := ⟨_, rfl⟩
  have h1 := heapNew V (.cells (bC rd ep lf (.slice ca n ccap)) 46)
  have b1 := belNew V (.cells (bC rd ep lf (.slice ca n ccap)) 46)
  obtain ⟨V1, hV1⟩ : ∃ V1, V.alloc (.cells (bC rd ep lf (.slice ca n ccap)) 46) = V1 := ⟨_, rfl⟩
  rw [hV1, hA] at h1 b1
  have HB : Hid (Rules V ∧ Cells V (.slice ca n ccap) n xv ln c ∧ V.heap.size = A ∧ n ≤ 140737488351232) := ⟨g, hc, hA, hn⟩
  have s1 : V1.heap.size = A + 1 := by rw [← hV1, ← hA]; simp
  have H1 : Hid (V1.heap[A]? = some (.cells (bC rd ep lf (.slice ca n ccap)) 46) ∧ Below A V V1 ∧ V1.heap.size = A + 1) := ⟨h1, b1, s1⟩
  have HS : Hid (0 < n → ∃ b off, ca = some ⟨b, off, none⟩ ∧ b < V.heap.size ∧ ∀ i, i < n → V.cell? ⟨b, off + i, none⟩ = some (xv i)) := hs
  have nn : (n : Int) ≤ 140737488351232 := by omega
  clear g hc hs h1 b1 s1 hn
  by_cases hh : hdOk rd ep lf = true
  · by_cases h256 : n ≤ 256
    · have i2 : ¬ (n : Int) > 256 := by omega
      have HH : Hid (hdOk rd ep lf = true ∧ n ≤ 256) := ⟨hh, h256⟩
      go_enter Tryz.func14, Tryz.ntmps14
      go_wp2_with (first
        | (refine atLoad 23 (.tmp 6) rfl ?_; go_must (refine wpList_ex rfl (execLoadMid (cs := [.int .i64 rd, .int .i64 ep, .int .i64 lf]) rfl rfl (range_bh H1.out.1) Tryz.underlying23 rfl (by kernel_rfl)) ?_))
        | (go_at_call 26; refine (sound_any rd ep lf _).mono ?_; rintro e w1 ⟨rfl, b1⟩; rw [HH.out.1]; have hb : w1.heap[A]? = some (.cells (bC rd ep lf (.slice ca n ccap)) 46) := (by rw [b1.block _ (by have := H1.out.2.2; omega)]; exact H1.out.1); obtain ⟨_, _, _, k3⟩ := bC_at _ _ _ _ hb; have W1 : Hid (w1.heap[A]? = some (.cells (bC rd ep lf (.slice ca n ccap)) 46) ∧ Below A V w1 ∧ A < w1.heap.size) := ⟨hb, H1.out.2.1.trans (b1.mono (by have := H1.out.2.2; omega)), (Array.getElem?_eq_some_iff.1 hb).1⟩; clear hb b1))
      clear hh h256
      go_loopw [17] (fun z W => ∃ (i : Nat), i ≤ n ∧ z = .int .i64 (i : Int) ∧ (∀ j, j < i → ln j = 320) ∧ W = w1) (fun z _ => n - (intOf z).toNat)
      case atStart => exact ⟨0, Nat.zero_le _, rfl, fun j h => by omega, rfl⟩
      case round =>
        obtain ⟨i, hi, rfl, hal, rfl⟩ := hrel
        by_cases hlt : i < n
        · have i1 : (i : Int) < n := by omega
          obtain ⟨b, off, rfl, hb, hcell⟩ := HS.out (by omega)
          have c1 : wr.cell? ⟨b, off + i, none⟩ = some (xv i) := by rw [cell_below W1.out.2.1 (by have := HB.out.2.2.1; omega)]; exact hcell i hlt
          have sl := HB.out.2.1.cell i hlt
          obtain ⟨ua, uc, eu, _⟩ := sl.shape
          rw [eu] at c1
          have ul := HB.out.2.1.lens i hlt
          have u1 : (ln i : Int) ≤ 140737488351232 := by omega
          have HK : Hid (i < n ∧ ∀ j, j < i → ln j = 320) := ⟨hlt, hal⟩
          by_cases h3 : ln i = 320
          · have i3 : ((ln i : Int) != 320) = false := by simp; omega
            have H3 : Hid (ln i = 320) := h3
            clear hlt hi hal hb hcell sl eu ul h3
            go_wp2
            go_roundw
            case rel => exact ⟨i + 1, HK.out.1, by go_num, fun j hj => by
              by_cases e : j = i
              · rw [e]; exact H3.out
              · exact HK.out.2 j (by omega), by first | rfl | trivial⟩
            case measure => have := HK.out.1; simp [intOf]; omega
          · have i3 : ((ln i : Int) != 320) = true := by simp; omega
            have H3 : Hid (ln i ≠ 320) := h3
            clear hlt hi hal hb hcell sl eu ul h3
            go_wp2
            go_ret2
            have eE : packE rd ep lf n ln = 64 := by
              unfold packE
              rw [if_pos HH.out.1, if_pos HH.out.2, if_neg]
              intro q
              exact H3.out ((allC_iff n ln).1 q i HK.out.1)
            have eN : packN rd ep lf n ln = 0 := by unfold packN; rw [eE]; rfl
            rw [eE, eN, HB.out.2.2.1]
            exact ⟨_, rfl, World.ownsRow_nil _ _ _ _, W1.out.2.1⟩
        · have ei : i = n := by omega
          subst ei
          have i1 : ¬ (i : Int) < i := by omega
          obtain ⟨r, e, l, rfl, rfl, rfl, gd⟩ := good_of HH.out.1 HH.out.2
          have HG : Hid (Good r e l i ∧ ∀ j, j < i → ln j = 320) := ⟨gd, hal⟩
          clear hi hlt hal gd
          go_wp2_with (first
            | (refine atLoad 46 (.tmp 1) rfl ?_; go_must (refine wpList_load_row rfl 46 (.tmp 1) rfl A rfl 46 _ (0, 0) _ W1.out.1 Tryz.underlying46 rfl (sizeB _ _ _ _) ?_; simp only [Act.put, List.setIfInBounds_toArray, List.set_cons_succ, List.set_cons_zero]))
            | (go_at_call 27; refine (packed_any r e l i _ xv ln c wr (HB.out.1.on W1.out.2.1 (by have := HB.out.1.sz; have := HB.out.2.2.1; omega)) HG.out.1 (HB.out.2.1.on (by rw [HB.out.2.2.1]; exact W1.out.2.1)) HG.out.2).mono ?_; rintro e' w2 ⟨u, rfl, own, b2⟩))
          go_ret2
          have eE : packE r e l i ln = 0 := by
            unfold packE
            rw [if_pos HH.out.1, if_pos HH.out.2, if_pos ((allC_iff i ln).2 HG.out.2)]
          have eN : packN r e l i ln = cellAt i + 4 := by unfold packN; rw [eE]; rfl
          rw [eE, eN, HB.out.2.2.1]
          have lA := W1.out.2.2
          exact ⟨_, rfl, own_base own (by omega), W1.out.2.1.trans (b2.mono (by omega))⟩
    · have i2 : (n : Int) > 256 := by omega
      have eE : packE rd ep lf n ln = 63 := by unfold packE; rw [if_pos hh, if_neg h256]
      have eN : packN rd ep lf n ln = 0 := by unfold packN; rw [eE]; rfl
      rw [eE, eN]
      clear eE eN h256 HS
      have HH : Hid (hdOk rd ep lf = true) := hh
      clear hh
      go_enter Tryz.func14, Tryz.ntmps14
      go_wp2_with (first
        | (refine atLoad 23 (.tmp 6) rfl ?_; go_must (refine wpList_ex rfl (execLoadMid (cs := [.int .i64 rd, .int .i64 ep, .int .i64 lf]) rfl rfl (range_bh H1.out.1) Tryz.underlying23 rfl (by kernel_rfl)) ?_))
        | (go_at_call 26; refine (sound_any rd ep lf _).mono ?_; rintro e w1 ⟨rfl, b1⟩; rw [HH.out]; have hb : w1.heap[A]? = some (.cells (bC rd ep lf (.slice ca n ccap)) 46) := (by rw [b1.block _ (by have := H1.out.2.2; omega)]; exact H1.out.1); obtain ⟨_, _, _, k3⟩ := bC_at _ _ _ _ hb; have W1 : Hid (Below A V w1) := H1.out.2.1.trans (b1.mono (by have := H1.out.2.2; omega)); clear hb b1))
      go_ret2
      rw [HB.out.2.2.1]
      exact ⟨_, rfl, World.ownsRow_nil _ _ _ _, W1.out⟩
  · have hf : hdOk rd ep lf = false := by simpa using hh
    have eE : packE rd ep lf n ln = 62 := by unfold packE; rw [if_neg hh]
    have eN : packN rd ep lf n ln = 0 := by unfold packN; rw [eE]; rfl
    rw [eE, eN]
    have HH : Hid (hdOk rd ep lf = false) := hf
    clear eE eN HS hh hf
    go_enter Tryz.func14, Tryz.ntmps14
    go_wp2_with (first
      | (refine atLoad 23 (.tmp 6) rfl ?_; go_must (refine wpList_ex rfl (execLoadMid (cs := [.int .i64 rd, .int .i64 ep, .int .i64 lf]) rfl rfl (range_bh H1.out.1) Tryz.underlying23 rfl (by kernel_rfl)) ?_))
      | (go_at_call 26; refine (sound_any rd ep lf _).mono ?_; rintro e w1 ⟨rfl, b1⟩; rw [HH.out]; have W1 : Hid (Below A V w1) := H1.out.2.1.trans (b1.mono (by have := H1.out.2.2; omega)); clear b1))
    go_ret2
    rw [HB.out.2.2.1]
    exact ⟨_, rfl, World.ownsRow_nil _ _ _ _, W1.out⟩
end Go.Proofs.YthmlfglllhmimaaGreatDoor.Frm

namespace Go.Proofs.YthmlfglllhmimaaGreatDoor.Frm
open Go.RowKit Gf8 Aes By8 Cel
/- General things for the laws. -/

/-- What is packed without an error. -/
theorem packE_ok {rd ep lf : Int} {n : Nat} {ln : Nat → Nat} (h : packE rd ep lf n ln = 0) : ∃ r e l : Nat, rd = r ∧ ep = e ∧ lf = l ∧ Good r e l n ∧ (∀ i, i < n → ln i = 320) ∧ packN rd ep lf n ln = cellAt n + 4 := by
  have h' := h
  unfold packE at h
  by_cases h1 : hdOk rd ep lf = true
  · rw [if_pos h1] at h
    by_cases h2 : n ≤ 256
    · rw [if_pos h2] at h
      by_cases h3 : allC n ln = true
      · obtain ⟨r, e, l, a, b, c, d⟩ := good_of h1 h2
        exact ⟨r, e, l, a, b, c, d, (allC_iff n ln).1 h3, by unfold packN; rw [if_pos h']⟩
      · rw [if_neg h3] at h; cases h
    · rw [if_neg h2] at h; cases h
  · rw [if_neg h1] at h; cases h
end Go.Proofs.YthmlfglllhmimaaGreatDoor.Frm

namespace Go.Proofs.YthmlfglllhmimaaGreatDoor.Frm
open Go.RowKit Gf8 Aes By8 Cel
/- same, sameCells, alike, where they are the same. -/

theorem own_nonnil {W : World} {B n t : Nat} {v : Value} {xs : List Value} (h : W.ownsRow B t 1 v n xs) (hn : 0 < n) : ∀ l c, v = .slice none l c → c = 0 := by
  intro l c e
  rcases h.2 with ⟨_, e0⟩ | ⟨g, cap, cur, rfl, _⟩
  · omega
  · cases e
/-- A list of new cells is a list of cells. -/
theorem CL.cells {B k : Nat} {x : Nat → Value} {p : Nat → Nat} {cv : Value} {W : World} (h : CL B k x p cv W) (hb : ∀ i j, i < k → j < 320 → cellB p i j < 256) (hk : k ≤ 1000) : Cells W cv k x (fun _ => 320) (cellB p) := by
  refine ⟨?_, fun i hi => own_slice (h.fam.rows i hi) fun j hj => hb i j hi hj, fun i hi => own_nonnil (h.fam.rows i hi) (by omega), fun i _ => by omega⟩
  by_cases h0 : 0 < k
  · obtain ⟨g, cap, rfl, hB, hg, hc⟩ := ownL_cells h.own h0
    have : k ≤ cap ∧ cap < 9223372036854775808 := by
      rcases h.own.2 with ⟨e, _⟩ | ⟨g', cap', cur, e, _, _, h1, h2, _⟩
      · cases e
      · injection e with _ _ e3
        unfold maxLen at h2
        omega
    exact ⟨_, cap, rfl, this.1, this.2, fun _ => ⟨g, 0, rfl, hg, fun i hi => by rw [Nat.zero_add]; have := hc i hi; rw [Nat.zero_add] at this; exact this⟩⟩
  · obtain ⟨ao, cap, rfl⟩ := ownL_shape h.own
    have : k ≤ cap ∧ cap < 9223372036854775808 := by
      rcases h.own.2 with ⟨e, _⟩ | ⟨g', cap', cur, e, _, _, h1, h2, _⟩
      · injection e with _ _ e3
        omega
      · injection e with _ _ e3
        unfold maxLen at h2
        omega
    exact ⟨ao, cap, rfl, this.1, this.2, fun q => absurd q h0⟩
section
variable {o : Oper} {a : Act} {w : World}
end
end Go.Proofs.YthmlfglllhmimaaGreatDoor.Frm
