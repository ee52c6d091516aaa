import Derived.Test.YtedjoakpbknflaaDoorF5
import Derived.Test.YtedjoakpbknflaaDoorB6
import Derived.Test.YtedjoakpbknflaaDoorC1
import Derived.Test.YtedjoakpbknflaaDoorE1
import Derived.Laws.BytesArg
namespace Go.Proofs.YtedjoakpbknflaaDoor
open Go.RowKit

set_option maxRecDepth 20000 in
set_option maxHeartbeats 4000000 in
theorem sums_any (v : Value) (n : Nat) (vs : Nat → Value) (ls : Nat → Nat) (ps : Nat → Nat → Int) (w : World) (hG : Glob w) (hv : ListsB w v n vs ls ps) :
    Calls Tryd.prog 4 #[v] w fun e w' => e = .returned (.bool true) ∧ Below w.heap.size w w' := by
  obtain ⟨⟨a0, cap0, rfl, e1, e2⟩, hE, hN, hS⟩ := hv
  have HG : Hid (Glob w) := hG
  have H1 : Hid (_) := e1
  have H2 : Hid (_) := e2
  have HE : Hid (∀ i, i < n → SliceB w (vs i) (ls i) (ps i)) := hE
  have HNi : Hid (_) := hN
  have HSm : Hid (_) := hS
  clear hG e1 e2 hE hN hS
  go_enter Tryd.func4, Tryd.ntmps4
  go_wp2_with fail
  refine (alive_any _ HG.out).mono ?_
  rintro e w1 ⟨rfl, hb1⟩
  have q1 : Hid (Below w.heap.size w w1) := hb1
  clear hb1
  go_wp2
  go_loopw [3] (fun i W => ∃ k : Nat, k ≤ n ∧ i = .int .i64 k ∧ Below w.heap.size w W) (fun i _ => n - (intOf i).toNat)
  case atStart => exact ⟨0, by omega, rfl, q1.out⟩
  case round =>
    obtain ⟨k, hk, rfl, bel⟩ := hrel
    have G : Hid (Below w.heap.size w wr) := bel
    clear bel q1
    by_cases hlt : k < n
    · have ik : (k : Int) < n := by omega
      obtain ⟨b, off, rfl, hb, hc⟩ := H2.out (by omega)
      have ck : wr.cell? ⟨b, off + k, none⟩ = some (vs k) := by rw [below_cell G.out hb]; exact hc k hlt
      clear hc
      have hbw : b < wr.heap.size := Nat.lt_of_lt_of_le hb G.out.size
      obtain ⟨⟨ak, cpk, hvk, f1, f2, f3⟩, hpk⟩ := HE.out k hlt
      have VK : Hid (SliceB w (vs k) (ls k) (ps k)) := HE.out k hlt
      have NK := HNi.out k hlt
      have SK : Hid (ls k + 4000 ≤ 140737488355328) := HSm.out k hlt
      rw [hvk] at ck VK NK
      obtain ⟨l, hl⟩ : ∃ l, l = ls k := ⟨_, rfl⟩
      obtain ⟨p, hp⟩ : ∃ p, p = ps k := ⟨_, rfl⟩
      rw [← hl] at ck VK NK SK f1 f3 hpk
      rw [← hp] at VK f3 hpk
      have NK' : Hid (∀ cap, Value.slice ak l cpk = .slice none l cap → cap = 0) := NK
      have srcK : Hid (∀ W, Below w.heap.size w W → (ak = none ∧ l = 0 ∧ cpk = 0) ∨ ∃ ad, ak = some ad ∧ ∀ j u, (vals (firstL p l))[j]? = some u → W.cell? (ad.add j) = some u) := by
        intro W hW
        cases ak with
        | none =>
          left
          by_cases h0 : 0 < l
          · obtain ⟨b, off, e, _⟩ := f3 h0
            cases e
          · exact ⟨rfl, by omega, NK cpk rfl⟩
        | some ad =>
          right
          refine ⟨ad, rfl, fun j u hu => ?_⟩
          have hj : j < l := by have := (List.getElem?_eq_some_iff.1 hu).1; simpa [vals, firstL] using this
          obtain ⟨b, off, e, hb, hc⟩ := f3 (by omega)
          cases e
          rw [Addr.add_mid, below_cell hW hb, hc j hj]
          simpa [vals, firstL, hj] using hu
      clear f1 f2 f3 hpk NK hvk hl hp
      have own0 : Hid ((wr.alloc (.cells #[] 5)).ownsRow wr.heap.size 5 1 (.slice (some ⟨wr.heap.size, 0, none⟩) 0 0) 0 (vals [])) := World.ownsRow_lit wr #[] 0 (Nat.le_refl _) (by unfold maxLen; omega) rfl
      have bel0 : Hid (Below wr.heap.size wr (wr.alloc (.cells #[] 5))) := (Below.refl _ _).alloc (Nat.le_refl _) _
      go_wp2_with (first
        | (refine isApp (.tmp 16) (.tmp 20) rfl ?_; go_must (refine wpList_appS (l := []) (r := firstL p l) (w0 := wr) rfl (.tmp 16) (.tmp 20) rfl rfl rfl own0.out (by simp [firstL]) (srcK.out _ (G.out.trans (bel0.out.mono G.out.size))) (by have := SK.out; omega) bel0.out (by simp) ?_; intro v2 w2 own2 bel2 sz2; simp only [Act.put, List.setIfInBounds_toArray, List.set_cons_succ, List.set_cons_zero]; have O2 : Hid (w2.ownsRow wr.heap.size 5 1 v2 l (vals (firstL p l))) := (by show w2.ownsRow wr.heap.size 5 1 v2 l (vals (firstL p l)); simpa using own2); have G2 : Hid (Below wr.heap.size wr w2) := bel2; clear own2 bel2 sz2))
        | (refine isApp (.tmp 21) (.tmp 22) rfl ?_; go_must (refine wpList_app (l := firstL p l) (r := [161, 162]) (w0 := wr) rfl (.tmp 21) (.tmp 22) rfl rfl rfl (O2.out.alloc _) rfl (src_two w2 161 162) (by have := SK.out; omega) (G2.out.alloc G2.out.size _) (by have := G2.out.size; simp; omega) ?_; intro v3 w3 own3 bel3 sz3; simp only [Act.put, List.setIfInBounds_toArray, List.set_cons_succ, List.set_cons_zero]; obtain ⟨g, cp, hv3⟩ := own_shape own3 (by omega); subst hv3; have O3 : Hid (w3.ownsRow wr.heap.size 5 1 (.slice (some ⟨g, 0, none⟩) (l + 2) cp) (l + 2) (vals (firstL p l ++ [161, 162]))) := own3; have G3 : Hid (Below wr.heap.size wr w3) := bel3; have ck3 : w3.cell? ⟨b, off + k, none⟩ = some (.slice ak l cpk) := (by rw [below_cell bel3 hbw]; exact ck); have lcp : Hid (l ≤ cp ∧ wr.heap.size ≤ g ∧ g < w3.heap.size) := (by have h1 := own3.lt g rfl; have h2 : l + 2 ≤ cp := own_cap own3; exact ⟨by omega, h1.1, h1.2⟩); have slp := slice_p g l (l + 2) cp lcp.out.1; clear own3 bel3 sz3)))
      refine (rsum_is (.slice ak l cpk) l p w3 (by have := SK.out; omega) (VK.out.below (G.out.trans (G3.out.mono G.out.size))) NK'.out).mono ?_
      rintro e w4 ⟨rfl, hb4⟩
      have q4 : Hid (Below w3.heap.size w3 w4) := hb4
      obtain ⟨E, hE⟩ : ∃ E, E = sumD (addN HS.new p l) := ⟨_, rfl⟩
      rw [← hE]
      have HEq : Hid (E = sumD (addN HS.new p l)) := hE
      clear hb4 hE ck
      have z28 := zero28
      go_wp2_with (first
        | (refine isStore 28 (.tmp 6) (.tmp 35) rfl ?_; go_must (refine wpList_store_row rfl 28 (.tmp 6) (.tmp 35) rfl w4.heap.size _ rfl rfl 28 _ (heap_alloc_new _ _) (size28' _) (by simp only [tab8_size]) (tab8_one _ _) ?_; rw [World.setRow_alloc_new]; simp only [Act.put])))
      clear z28
      obtain ⟨D, hD⟩ : ∃ D, D = w4.heap.size := ⟨_, rfl⟩
      obtain ⟨X, hX⟩ : ∃ X, X = w4.alloc (.cells (tab8 32 E) 28) := ⟨_, rfl⟩
      rw [← hX, ← hD]
      have x1 : Hid (Below w3.heap.size w3 X) := by rw [hX]; exact q4.out.alloc q4.out.size _
      have x2 : Hid (X.heap[D]? = some (.cells (tab8 32 E) 28)) := by rw [hX, hD]; exact heap_alloc_new _ _
      have x3 : Hid (Below wr.heap.size wr X) := G3.out.trans (x1.out.mono G3.out.size)
      have x4 : Hid (Below w.heap.size w X) := G.out.trans (x3.out.mono G.out.size)
      clear hX hD q4
      have cg : ∀ j, j < l + 2 → X.cell? ⟨g, j, none⟩ = (vals (firstL p l ++ [161, 162]))[j]? := by
        intro j hj
        rw [below_cell x1.out lcp.out.2.2]
        exact O3.out.cellAt j (by omega)
      have pX : SliceB X (.slice (some ⟨g, 0, none⟩) l cp) l p := by
        refine ⟨⟨_, _, rfl, lcp.out.1, ?_, fun _ => ⟨g, 0, rfl, Nat.lt_of_lt_of_le lcp.out.2.2 x1.out.size, fun j hj => ?_⟩⟩, VK.out.bytes⟩
        · have h1 := own_max O3.out; unfold maxLen at h1; omega
        · rw [Nat.zero_add, cg j (by omega)]
          simp [vals, firstL, List.getElem?_append_left, hj]
      have pF : ∀ w5, CB X.heap.size X w5 → SliceB w5 (.slice (some ⟨g, 0, none⟩) l cp) l p := fun w5 hC => pX.below hC
      have kF : ∀ w5, CB X.heap.size X w5 → SliceB w5 (.slice ak l cpk) l p := fun w5 hC => VK.out.below (x4.out.trans (Below.mono hC x4.out.size))
      have dF : ∀ w5, CB X.heap.size X w5 → w5.heap[D]? = some (.cells (tab8 32 E) 28) := fun w5 hC => by rw [Below.block hC _ (Array.getElem?_eq_some_iff.1 x2.out).1]; exact x2.out
      have lF : ∀ w5, CB X.heap.size X w5 → w5.cell? ⟨b, off + k, none⟩ = some (.slice ak l cpk) := fun w5 hC => by
        rw [below_cell hC (Nat.lt_of_lt_of_le hbw x3.out.size), below_cell x1.out (Nat.lt_of_lt_of_le hbw G3.out.size)]; exact ck3
      have aF : ∀ w5, CB X.heap.size X w5 → w5.cell? ⟨g, l, none⟩ = some (.int .u8 161) := fun w5 hC => by
        rw [below_cell hC (Nat.lt_of_lt_of_le lcp.out.2.2 x1.out.size), cg l (by omega)]
        simp [vals, firstL]
      have bF : ∀ w5, CB X.heap.size X w5 → w5.cell? ⟨g, l + 1, none⟩ = some (.int .u8 162) := fun w5 hC => by
        rw [below_cell hC (Nat.lt_of_lt_of_le lcp.out.2.2 x1.out.size), cg (l + 1) (by omega)]
        simp [vals, firstL]
      have callF : ∀ w5, CB X.heap.size X w5 → Calls Tryd.prog 9 #[.slice (some ⟨g, 0, none⟩) l cp] w5 fun e w' => e = .returned (.agg (tab8 32 E)) ∧ Below w5.heap.size w5 w' := fun w5 hC => by
        rw [HEq.out]
        exact sum_any _ l p w5 (HG.out.below (x4.out.trans (Below.mono hC x4.out.size)) HG.out.sz) (by have := SK.out; omega) (pF w5 hC)
      clear cg ck3 slp
      have j1 : (l : Int) < (l : Int) + 2 := by omega
      have j5 : (0 : Int) ≤ (l : Int) + 1 := by omega
      have j2 : (l : Int) + 1 < (l : Int) + 2 := by omega
      have j3 : wrap64 ((l : Int) + 1) = (l : Int) + 1 := by have := SK.out; simp [wrap64]; omega
      have j4 : IntKind.i64.wrap ((l : Int) + 1) = (l : Int) + 1 := by have := SK.out; simp [IntKind.wrap, IntKind.bits, IntKind.signed]; omega
      refine wp_region_cb (V := X) (B := X.heap.size) (by kernel_rfl) (by kernel_rfl) (Below.refl _ _) ?_
      quiet_step ((intro _; rfl))
      quiet_step ((intro hC; exact cb_call hC (Nat.le_refl _) (callF _ hC)))
      refine wpQuiet_val rfl (.agg (tab8 32 E)) (fun w5 hC => exec_load28 rfl rfl (dF w5 hC) (size28' _)) ?_
      simp only [Act.put, List.setIfInBounds_toArray, List.set_cons_succ, List.set_cons_zero]
      refine wpQuiet_val rfl (.bool (!eq32 E E)) (fun w5 _ => exec_neq28 (x := .tmp 37) (y := .tmp 38) rfl rfl rfl) ?_
      rw [eq32_self]
      simp only [Act.put, List.setIfInBounds_toArray, List.set_cons_succ, List.set_cons_zero]
      quiet_step ((intro _; rfl))
      quiet_step ((intro _; rfl))
      quiet_step ((intro hC; exact cb_call hC (Nat.le_refl _) (callF _ hC)))
      refine wpQuiet_val rfl (.agg (tab8 32 E)) (fun w5 hC => exec_load28 rfl rfl (dF w5 hC) (size28' _)) ?_
      simp only [Act.put, List.setIfInBounds_toArray, List.set_cons_succ, List.set_cons_zero]
      refine wpQuiet_val rfl (.bool (!eq32 E E)) (fun w5 _ => exec_neq28 (x := .tmp 42) (y := .tmp 43) rfl rfl rfl) ?_
      rw [eq32_self]
      simp only [Act.put, List.setIfInBounds_toArray, List.set_cons_succ, List.set_cons_zero]
      quiet_step ((intro _; rfl))
      quiet_step ((intro _; rfl))
      quiet_step ((intro _; rfl))
      refine wpQuiet_val rfl (.string (strOfNums (firstL p l))) (fun w5 hC => exec_conv_str rfl rfl (pF w5 hC)) ?_
      simp only [Act.put, List.setIfInBounds_toArray, List.set_cons_succ, List.set_cons_zero]
      quiet_step ((intro _; rfl))
      quiet_step ((intro _; rfl))
      quiet_step ((intro _; rfl))
      refine wpQuiet_val rfl (.slice ak l cpk) (fun w5 hC => exec_load33 rfl rfl (lF w5 hC)) ?_
      simp only [Act.put, List.setIfInBounds_toArray, List.set_cons_succ, List.set_cons_zero]
      refine wpQuiet_val rfl (.string (strOfNums (firstL p l))) (fun w5 hC => exec_conv_str rfl rfl (kF w5 hC)) ?_
      simp only [Act.put, List.setIfInBounds_toArray, List.set_cons_succ, List.set_cons_zero]
      refine wpQuiet_val rfl (.bool false) (fun w5 hC => exec_neq_str rfl rfl rfl) ?_
      simp only [Act.put, List.setIfInBounds_toArray, List.set_cons_succ, List.set_cons_zero]
      quiet_step ((intro _; rfl))
      quiet_step ((intro _; rfl))
      quiet_step ((intro _; rfl))
      quiet_step ((intro _; rfl))
      quiet_step ((intro _; rfl))
      quiet_step ((intro _; rfl))
      refine wpQuiet_val rfl (.int .u8 161) (fun w5 hC => exec_load5 rfl rfl (aF w5 hC)) ?_
      simp only [Act.put, List.setIfInBounds_toArray, List.set_cons_succ, List.set_cons_zero]
      quiet_step ((intro _; rfl))
      quiet_step ((intro _; rfl))
      quiet_step ((intro _; rfl))
      quiet_step ((intro _; rfl))
      quiet_step ((intro _; rfl))
      quiet_step ((intro _; rfl))
      quiet_step ((intro _; rfl))
      quiet_step ((intro _; rfl))
      refine wpQuiet_val rfl (.int .u8 162) (fun w5 hC => exec_load5 rfl rfl (bF w5 hC)) ?_
      simp only [Act.put, List.setIfInBounds_toArray, List.set_cons_succ, List.set_cons_zero]
      quiet_step ((intro _; rfl))
      quiet_step ((intro _; rfl))
      refine wpQuiet_nil ?_
      intro w6 hcb
      have y1 : Hid (Below w.heap.size w w6) := x4.out.trans (Below.mono hcb x4.out.size)
      obtain ⟨cur, hcur, hcv⟩ : ∃ cur : Array Value, w6.heap[g]? = some (.cells cur 5) ∧ ∀ j, j < l → cur[j]? = some (.int .u8 (px p 0 j)) := by
        rcases O3.out.2 with ⟨e, _⟩ | ⟨g', cap', cur, e, _, hh, _⟩
        · cases e
        · cases e
          have h6 : w6.heap[g]? = some (.cells cur 5) := by
            rw [Below.block hcb _ (Nat.lt_of_lt_of_le lcp.out.2.2 x1.out.size), x1.out.block _ lcp.out.2.2]; exact hh
          refine ⟨cur, h6, fun j hj => ?_⟩
          have hc' := O3.out.cellAt j (by omega)
          rw [cell_of_row _ _ _ _ _ _ hh] at hc'
          rw [hc']
          simp [vals, firstL, px, List.getElem?_append_left, hj]
      have hg0 : Hid (w.heap.size ≤ g) := Nat.le_trans G.out.size lcp.out.2.1
      have bd : Hid (∀ j, j < l → 0 ≤ p j ∧ p j < 256) := VK.out.bytes
      have mx : Hid (l ≤ cp ∧ cp < 9223372036854775808) := ⟨lcp.out.1, by have h1 := own_max O3.out; unfold maxLen at h1; omega⟩
      clear hcb x1 x2 x3 x4 pF kF dF lF aF bF callF pX O3 G3 lcp VK srcK own0 bel0 NK' HEq j1 j2 j3 j4 j5 O2 G2
      have CV : Hid (∀ j, j < l → cur[j]? = some (.int .u8 (px p 0 j))) := hcv
      have CH : Hid (w6.heap[g]? = some (.cells cur 5)) := hcur
      clear hcv hcur
      go_wp2
      go_loopw [7] (fun i W => ∃ m : Nat, m ≤ l ∧ i = .int .i64 m ∧ (∃ cur : Array Value, W.heap[g]? = some (.cells cur 5) ∧ ∀ j, j < l → cur[j]? = some (.int .u8 (px p m j))) ∧ Below w.heap.size w W) (fun i _ => l - (intOf i).toNat)
      case atStart => exact ⟨0, by omega, rfl, ⟨cur, CH.out, CV.out⟩, y1.out⟩
      case round =>
        obtain ⟨m, hm, rfl, ⟨cur2, hc2, hv2⟩, bel⟩ := hrel
        have C2 : Hid (wr.heap[g]? = some (.cells cur2 5)) := hc2
        have V2 : Hid (∀ j, j < l → cur2[j]? = some (.int .u8 (px p m j))) := hv2
        have B2 : Hid (Below w.heap.size w wr) := bel
        clear hc2 hv2 bel CV CH y1
        by_cases hml : m < l
        · have im : (m : Int) < l := by omega
          have k1 : wr.cell? ⟨g, m, none⟩ = some (.int .u8 (p m)) := by
            rw [cell_of_row _ _ _ _ _ _ C2.out, V2.out m hml]; simp [px]
          have k2 : wr.frozen? ⟨g, m, none⟩ = false := frozen_of_row C2.out
          have wm : wrap64 ((m : Int) + 1) = ((m + 1 : Nat) : Int) := by have := SK.out; simp [wrap64]; omega
          go_wp2
          go_roundw
          case rel =>
            refine ⟨m + 1, by omega, by rw [wm], ⟨_, heap_setCell_row _ C2.out, fun j hj => ?_⟩, B2.out.setCell hg0.out _⟩
            rw [Array.getElem?_setIfInBounds]
            by_cases e : m = j
            · subst e
              have hsz : m < cur2.size := (Array.getElem?_eq_some_iff.1 (V2.out m hml)).1
              simp [px, hsz]
            · rw [if_neg e, V2.out j hj]
              unfold px
              by_cases h : j < m
              · simp [h, show j < m + 1 by omega]
              · simp [h, show ¬ j < m + 1 by omega]
          case measure =>
            rw [wm]
            simp only [intOf, Int.toNat_natCast]
            omega
        · have eml : m = l := by omega
          subst eml
          have pY : Hid (SliceB wr (.slice (some ⟨g, 0, none⟩) m cp) m (px p m)) := by
            refine ⟨⟨_, _, rfl, mx.out.1, mx.out.2, fun h0 => ⟨g, 0, rfl, (Array.getElem?_eq_some_iff.1 C2.out).1, fun j hj => ?_⟩⟩, px_bd p m m bd.out⟩
            rw [Nat.zero_add, cell_of_row _ _ _ _ _ _ C2.out, V2.out j hj]
          go_wp2_with fail
          refine (sum_any _ m (px p m) _ (HG.out.below B2.out HG.out.sz) (by have := SK.out; omega) pY.out).mono ?_
          rintro e w7 ⟨rfl, hb7⟩
          have Q7 : Hid (Below w.heap.size w w7) := B2.out.trans (hb7.mono B2.out.size)
          have P7 : Hid (SliceB w7 (.slice (some ⟨g, 0, none⟩) m cp) m (px p m)) := pY.out.below hb7
          clear hb7
          go_wp2_with fail
          refine (rsum_is _ m (px p m) w7 (by have := SK.out; omega) P7.out (fun cap e => by cases e)).mono ?_
          rintro e w8 ⟨rfl, hb8⟩
          have Q8 : Hid (Below w.heap.size w w8) := Q7.out.trans (hb8.mono Q7.out.size)
          clear hb8
          have wk : wrap64 ((k : Int) + 1) = ((k + 1 : Nat) : Int) := by have := H1.out; simp [wrap64]; omega
          go_wp2_with (first
            | (refine isNeq (.tmp 86) (.tmp 88) rfl ?_; go_must (refine wpList_neq28_w rfl (.tmp 86) (.tmp 88) rfl rfl rfl ?_; rw [eq32_self]; simp only [Act.put, List.setIfInBounds_toArray, List.set_cons_succ, List.set_cons_zero])))
          go_roundw
          case rel => exact ⟨k + 1, by omega, by rw [wk], Q8.out⟩
          case measure =>
            rw [wk]
            simp only [intOf, Int.toNat_natCast]
            omega
    · go_wp2
      go_ret
      exact ⟨rfl, G.out⟩
end Go.Proofs.YtedjoakpbknflaaDoor
