import Derived.Test.YtedjoakpbknflaaDoorH2
namespace Go.Proofs.YtedjoakpbknflaaDoor
namespace Hs
open Go.RowKit

structure Save (G : Nat → Prop) (w w' : World) : Prop where
  os : w'.os = w.os
  tape : w'.tape = w.tape
  output : w'.output = w.output
  size : w.heap.size ≤ w'.heap.size
  block : ∀ k, k < w.heap.size → ¬ G k → w'.heap[k]? = w.heap[k]?
theorem Save.refl (G : Nat → Prop) (w : World) : Save G w w := ⟨rfl, rfl, rfl, Nat.le_refl _, fun _ _ _ => rfl⟩
theorem Save.cell {G : Nat → Prop} {w w' : World} (h : Save G w w') {b o : Nat} (v : Value) (hG : G b) : Save G w (w'.setCell ⟨b, o, none⟩ v) := by
  have hb : Below b w' (w'.setCell ⟨b, o, none⟩ v) := (Below.refl _ _).setCell (p := ⟨b, o, none⟩) (Nat.le_refl _) v
  refine ⟨hb.os.trans h.os, hb.tape.trans h.tape, hb.output.trans h.output, Nat.le_trans h.size hb.size, fun k hk hk2 => ?_⟩
  rw [Below.heap_setCell _ _ _ _ (fun e => hk2 (by rw [e]; exact hG)), h.block k hk hk2]
theorem Save.to_below {G : Nat → Prop} {w w' : World} {B : Nat} (h : Save G w w') (hB : B ≤ w.heap.size) (hG : ∀ k, G k → B ≤ k) : Below B w w' :=
  ⟨h.os, h.tape, h.output, h.size, fun k hk => h.block k (by omega) (fun e => by have := hG k e; omega)⟩
theorem RowP.set {W : World} {g n m : Nat} {f : Nat → Int} (h : RowP W g n f) (v : Int) (hm : m < n) : RowP (W.setCell ⟨g, m, none⟩ (.int .u8 v)) g n (upd f m v) := by
  obtain ⟨cur, h1, h2⟩ := h
  refine ⟨_, heap_setCell_row _ h1, fun j hj => ?_⟩
  rw [Array.getElem?_setIfInBounds]
  unfold upd
  by_cases e : m = j
  · subst e
    have := (Array.getElem?_eq_some_iff.1 (h2 m hm)).1
    simp [this]
  · rw [if_neg e, if_neg (fun x => e x.symm), h2 j hj]
theorem RowP.cell {W : World} {g n m : Nat} {f : Nat → Int} (h : RowP W g n f) (hm : m < n) : W.cell? ⟨g, m, none⟩ = some (.int .u8 (f m)) ∧ W.frozen? ⟨g, m, none⟩ = false := by
  obtain ⟨cur, h1, h2⟩ := h
  exact ⟨by rw [cell_of_row _ _ _ _ _ _ h1]; exact h2 m hm, frozen_of_row h1⟩
theorem Bk.save {W W' : World} {v : Value} {l gp : Nat} {p : Nat → Int} (h : Bk W v l p) (hne : ∀ g cap, v = .slice (some ⟨g, 0, none⟩) l cap → g ≠ gp) (hs : Save (fun k => k = gp) W W') : Bk W' v l p := by
  refine ⟨?_, h.bytes⟩
  rcases h.shape with h0 | ⟨g, cap, e1, h1, h2, h3⟩
  · exact Or.inl h0
  · exact Or.inr ⟨g, cap, e1, h1, h2, h3.of_block (hs.block g h3.lt (hne g cap e1))⟩
theorem Bk.lt {W : World} {v : Value} {l : Nat} {p : Nat → Int} (h : Bk W v l p) : ∀ g cap, v = .slice (some ⟨g, 0, none⟩) l cap → g < W.heap.size := by
  intro g cap e
  rcases h.shape with ⟨rfl, _⟩ | ⟨g', cap', rfl, _, _, h3⟩
  · cases e
  · cases e; exact h3.lt
theorem own_save {W W' : World} {B s n gp m : Nat} {t : TypeId} {v : Value} {xs : List Value} {f : Nat → Int} (h : W.ownsRow B t s v n xs) (ht : t ≠ 5) (hr : RowP W gp m f) (hs : Save (fun k => k = gp) W W') : W'.ownsRow B t s v n xs := by
  refine ⟨h.1, ?_⟩
  rcases h.2 with h0 | ⟨g, cap, cur, e1, h1, hg, h2⟩
  · exact Or.inl h0
  · refine Or.inr ⟨g, cap, cur, e1, h1, ?_, h2⟩
    rw [hs.block g (Array.getElem?_eq_some_iff.1 hg).1 (fun e => ?_)]
    · exact hg
    · have e' : g = gp := e
      subst e'
      obtain ⟨c2, h3, _⟩ := hr
      rw [hg] at h3
      simp only [Option.some.injEq, Obj.cells.injEq] at h3
      exact ht h3.2.1
theorem own_empty (W : World) : (W.alloc (.cells #[] 5)).ownsRow W.heap.size 5 1 (.slice (some ⟨W.heap.size, 0, none⟩) 0 0) 0 (vals []) :=
  ⟨by simp [vals], Or.inr ⟨W.heap.size, 0, #[], rfl, Nat.le_refl _, heap_alloc_new _ _, Nat.le_refl _, by unfold maxLen; omega, by simp, by simp [vals]⟩⟩
theorem own_form {W : World} {B n : Nat} {v : Value} {xs : List Value} (h : W.ownsRow B 5 1 v n xs) : ∃ ao cap, v = .slice ao n cap := by
  rcases h.2 with ⟨e, e2⟩ | ⟨g, cap, cur, e, _⟩
  · exact ⟨none, 0, by rw [e, e2]⟩
  · exact ⟨_, _, e⟩
/-- One book more. -/
def updN {α : Type} (f : Nat → α) (N : Nat) (x : α) : Nat → α := fun i => if i = N then x else f i
theorem updN_lt {α : Type} {f : Nat → α} {N : Nat} {x : α} {i : Nat} (h : i < N) : updN f N x i = f i := by unfold updN; rw [if_neg (by omega)]
theorem updN_at {α : Type} {f : Nat → α} {N : Nat} {x : α} : updN f N x N = x := by unfold updN; rw [if_pos rfl]

theorem St.below {w W W' : World} {v3 v4 : Value} {N : Nat} {P : Nat → Nat → Int} {Ls : Nat → Nat} {bv : Nat → Value} (h : St w W v3 v4 N P Ls bv) (hb : Below W.heap.size W W') : St w W' v3 v4 N P Ls bv :=
  ⟨h.one, h.most, own_keep (e := 6) h.hs (by decide) (keep_below 6 hb), own_keep (e := 6) h.bs (by decide) (keep_below 6 hb), fun i hi => ⟨(h.bk i hi).1.below hb, (h.bk i hi).2⟩, h.bel.trans (hb.mono h.bel.size)⟩

set_option maxRecDepth 20000 in
set_option maxHeartbeats 8000000 in
theorem scripts_any (v : Value) (n : Nat) (fr : Nat → Int) (ask : Nat → Bool) (pv : Nat → Value) (pl : Nat → Nat) (pp : Nat → Nat → Int) (w : World) (hG : Glob w) (hv : Scr w v n fr ask pv pl pp) :
    Calls Tryd.prog 5 #[v] w fun e w' => e = .returned (.bool true) ∧ Below w.heap.size w w' := by
  obtain ⟨a0, cap0, rfl, hn60, hcells⟩ := hv.shape
  have HG : Hid (_) := hG
  have HV : Hid (Scr w (.slice a0 n cap0) n fr ask pv pl pp) := hv
  have HN60 : Hid (n < 1152921504606846976) := hn60
  have HC : Hid (_) := hcells
  clear hG hv hn60 hcells
  go_enter Tryd.func5, Tryd.ntmps5
  go_wp2_with fail
  refine (alive_any w HG.out).mono ?_
  rintro e w1 ⟨rfl, hb1⟩
  have W1 : Hid (Below w.heap.size w w1) := hb1
  clear hb1
  go_wp2_with fail
  refine (new_any w1).mono ?_
  rintro e w2 ⟨rfl, hb2⟩
  have W2 : Hid (Below w.heap.size w w2) := W1.out.trans (hb2.mono W1.out.size)
  clear hb2 W1
  have w0h := heap2 w2 (.cells HS.new.cells 27) (.cells #[.slice none 0 0] 33)
  have W0 : Hid (_) := w0h
  have W3 : Hid (Below w.heap.size w ((w2.alloc (.cells HS.new.cells 27)).alloc (.cells #[.slice none 0 0] 33))) := (W2.out.alloc W2.out.size _).alloc (by have := W2.out.size; simp; omega) _
  clear w0h
  go_wp2_with (first
    | (refine isBsH (.tmp 12) rfl ?_; go_must (refine wpList_bsH (s := HS.new) rfl (.tmp 12) rfl rfl ?_; simp only [Act.put, List.setIfInBounds_toArray, List.set_cons_succ, List.set_cons_zero])))
  go_loopw [3, 4, 5] (fun v3 v4 v5 W => ∃ (k N : Nat) (P : Nat → Nat → Int) (Ls : Nat → Nat) (bv : Nat → Value), k ≤ n ∧ v5 = .int .i64 k ∧ St w W v3 v4 N P Ls bv) (fun _ _ v5 _ => n - (intOf v5).toNat)
  case atStart =>
    have ws := W2.out.size
    refine ⟨0, 1, fun _ _ => 0, fun _ => 0, fun _ => .slice none 0 0, by omega, rfl, ⟨Nat.le_refl _, by omega, ?_, ?_, fun i hi => ⟨⟨Or.inl ⟨rfl, rfl⟩, fun j hj => by omega⟩, by omega⟩, W3.out⟩⟩
    · refine ⟨by rw [hL_len], Or.inr ⟨w2.heap.size, 1, HS.new.cells, rfl, ws, W0.out.1, Nat.le_refl _, by unfold maxLen; omega, by simp [HS.cells, hc_size], ?_⟩⟩
      rw [List.take_of_length_le (by simp [HS.cells, hc_size])]
      rfl
    · refine ⟨by rw [bL_len], Or.inr ⟨w2.heap.size + 1, 1, #[.slice none 0 0], rfl, by omega, W0.out.2, Nat.le_refl _, by unfold maxLen; omega, rfl, rfl⟩⟩
  case round =>
    obtain ⟨k, N, P, Ls, bv, hk, rfl, st⟩ := hrel
    obtain ⟨gh, ch, rfl, lth, chh⟩ := own_g st.hs st.one
    obtain ⟨gb, cb, rfl, ltb, cbb⟩ := own_g st.bs st.one
    have ST : Hid (St w wr (.slice (some ⟨gh, 0, none⟩) N ch) (.slice (some ⟨gb, 0, none⟩) N cb) N P Ls bv) := st
    have HGH : Hid (gh < wr.heap.size) := lth
    have HGB : Hid (gb < wr.heap.size) := ltb
    have CHH : Hid (∀ j u, (hL (hB P Ls) N)[j]? = some u → wr.cell? ⟨gh, j, none⟩ = some u) := chh
    have CBB : Hid (∀ j u, (bL bv N)[j]? = some u → wr.cell? ⟨gb, j, none⟩ = some u) := cbb
    have SB : Hid (Below w.heap.size w wr) := st.bel
    have HNN : Hid (1 ≤ N ∧ N ≤ 301) := ⟨st.one, st.most⟩
    clear st lth ltb chh cbb W0 W2 W3
    by_cases hlt : k < n
    · have i1 : (k : Int) < n := by omega
      obtain ⟨b, off, ea, hbl, hcl⟩ := HC.out (by omega)
      subst ea
      have HCL : Hid (b < w.heap.size ∧ ∀ i, i < n → w.cell? ⟨b, off + i * 3, none⟩ = some (.int .i64 (fr i)) ∧ w.cell? ⟨b, off + i * 3 + 1, none⟩ = some (.bool (ask i)) ∧ w.cell? ⟨b, off + i * 3 + 2, none⟩ = some (pv i)) := ⟨hbl, hcl⟩
      have c0 : wr.cell? ⟨b, off + k * 3, none⟩ = some (.int .i64 (fr k)) := by rw [below_cell SB.out hbl]; exact (hcl k hlt).1
      have c1 : wr.cell? ⟨b, off + k * 3 + 1, none⟩ = some (.bool (ask k)) := by rw [below_cell SB.out hbl]; exact (hcl k hlt).2.1
      clear hbl hcl
      obtain ⟨t, ht⟩ : ∃ t : Nat, (t : Int) = plc (fr k) (N : Int) := ⟨(plc (fr k) (N : Int)).toNat, Int.toNat_of_nonneg (plc_bd _ _ (by have := HNN.out; omega)).1⟩
      have HTN : Hid (t < N) := by
        show t < N
        have := (plc_bd (fr k) (N : Int) (by have := HNN.out; omega)).2
        omega
      have w3 : wrap64 ((k : Int) + 1) = ((k + 1 : Nat) : Int) := by have := HN60.out; simp [wrap64]; omega
      have WK : Hid (_) := w3
      clear w3
      go_wp2_with fail
      have hpl := place_any (fr k) (N : Int) wr (HV.out.fits k hlt) (by have := HNN.out; omega) (by have := HNN.out; omega)
      rw [← ht] at hpl
      refine hpl.mono ?_
      rintro e w' ⟨rfl, rfl⟩
      clear hpl ht c0
      have BKk : Hid (Bk w' (bv t) (Ls t) (P t)) := (ST.out.bk t HTN.out).1
      have BKl : Hid (Ls t ≤ 150000000000000) := (ST.out.bk t HTN.out).2
      have HRG : Hid (w'.rangeAt gh (t * 73) (hB P Ls t).cells.toList) := range_h CHH.out HTN.out
      have HBV : Hid (w'.cell? ⟨gb, t, none⟩ = some (bv t)) := CBB.out t _ (bL_get bv N t HTN.out)
      cases hask : ask k with
      | true =>
        rw [hask] at c1
        go_wp2_with fail
        refine wp_region_slotsA 11 112 [34, 35, 36, 37, 38, 39, 40, 41, 42, 43, 44] (fun j v _ => cmS (.slice (some ⟨gh, 0, none⟩) N ch) (.slice (some ⟨gb, 0, none⟩) N cb) (bv t) gh gb t (hB P Ls t) j v) (by kernel_rfl) (by kernel_rfl) (by kernel_rfl) (by decide) rfl rfl (by decide) (by decide) (fun _ _ _ _ h _ => h) ?_ ?_
        · intro j hj a W hB' hf hdep
          have kb := (BKk.out).below hB'
          have hr : W.rangeAt gh (t * 73) (hB P Ls t).cells.toList := fun j v hv => by
            rw [below_cell hB' HGH.out]; exact HRG.out j v hv
          have cb' : W.cell? ⟨gb, t, none⟩ = some (bv t) := by rw [below_cell hB' HGB.out]; exact HBV.out
          have gW : Below w.heap.size w W := SB.out.trans (hB'.mono SB.out.size)
          match j, hj with
          | 0, _ => exact stepV rfl rfl (execMove rfl) ⟨_, rfl, hf 3 (by decide), Below.refl _ _⟩
          | 1, _ => exact stepV rfl rfl (execMove rfl) ⟨_, rfl, hf 6 (by decide), Below.refl _ _⟩
          | 2, _ =>
            have h0 : a.eval (.tmp 34) = .slice (some ⟨gh, 0, none⟩) N ch := hdep _ rfl 0 rfl
            have h1 : a.eval (.tmp 35) = .int .i64 (t : Int) := hdep _ rfl 1 rfl
            exact stepV rfl rfl (execIdxH rfl h0 h1 HTN.out) ⟨_, rfl, rfl, Below.refl _ _⟩
          | 3, _ =>
            have h0 : a.eval (.tmp 36) = .pointer (some ⟨gh, t * 73, none⟩) := hdep _ rfl 2 rfl
            exact stepV rfl rfl (execLoadH rfl h0 hr) ⟨_, rfl, rfl, Below.refl _ _⟩
          | 4, _ =>
            have h0 : a.eval (.tmp 37) = .agg (hB P Ls t).cells := hdep _ rfl 3 rfl
            exact stepC rfl rfl (execCall1 Tryd.func11 (by kernel_rfl) (by kernel_rfl) rfl h0) (hsum_any (hB P Ls t) W (HG.out.below gW HG.out.sz) (ok_hB kb.bytes)) fun e w' h => ⟨_, h.1, _, rfl, rfl, h.2⟩
          | 5, _ => exact stepV rfl rfl (execMove rfl) ⟨_, rfl, hf 4 (by decide), Below.refl _ _⟩
          | 6, _ => exact stepV rfl rfl (execMove rfl) ⟨_, rfl, hf 6 (by decide), Below.refl _ _⟩
          | 7, _ =>
            have h0 : a.eval (.tmp 39) = .slice (some ⟨gb, 0, none⟩) N cb := hdep _ rfl 5 rfl
            have h1 : a.eval (.tmp 40) = .int .i64 (t : Int) := hdep _ rfl 6 rfl
            exact stepV rfl rfl (execIdxB rfl h0 h1 HTN.out) ⟨_, rfl, rfl, Below.refl _ _⟩
          | 8, _ =>
            have h0 : a.eval (.tmp 41) = .pointer (some ⟨gb, t, none⟩) := hdep _ rfl 7 rfl
            exact stepV rfl rfl (exec_load33 rfl h0 cb') ⟨_, rfl, rfl, Below.refl _ _⟩
          | 9, _ =>
            have h0 : a.eval (.tmp 42) = bv t := hdep _ rfl 8 rfl
            exact stepC rfl rfl (execCall1 Tryd.func14 (by kernel_rfl) (by kernel_rfl) rfl h0) (rsum_is (bv t) (Ls t) (P t) W (by have := BKl.out; omega) kb.sliceB kb.nil) fun e w' h => ⟨_, h.1, _, rfl, rfl, h.2⟩
          | 10, _ =>
            have h0 : a.eval (.tmp 38) = .agg (tab8 32 (sumD (hB P Ls t))) := hdep _ rfl 4 rfl
            have h1 : a.eval (.tmp 43) = .agg (tab8 32 (sumD (hB P Ls t))) := hdep _ rfl 9 rfl
            exact stepV rfl rfl (exec_neq28 rfl h0 h1) ⟨_, rfl, by rw [eq32_self]; rfl, Below.refl _ _⟩
          | k + 11, hj => exact absurd hj (by omega)
        · intro x W hB' hS
          have e10 : x 10 = .bool false := hS 10 (by omega)
          have S2 : Hid (St w W (.slice (some ⟨gh, 0, none⟩) N ch) (.slice (some ⟨gb, 0, none⟩) N cb) N P Ls bv) := ST.out.below hB'
          simp only [putL, List.drop_succ_cons, List.drop_nil, e10, Act.put, List.setIfInBounds_toArray, List.set_cons_succ, List.set_cons_zero]
          clear hS hB' e10 c1
          go_wp2
          go_roundw
          case rel => exact ⟨k + 1, N, P, Ls, bv, by omega, by rw [WK.out], S2.out⟩
          case measure =>
            rw [WK.out]
            simp only [intOf, Int.toNat_natCast]
            omega
      | false =>
        rw [hask] at c1
        have i2 : (t : Int) < N := by have := HTN.out; omega
        obtain ⟨ab, cbk, hbv⟩ := BKk.out.form
        have cbv : w'.cell? ⟨gb, t, none⟩ = some (.slice ab (Ls t) cbk) := by rw [← hbv]; exact HBV.out
        by_cases hN : N > 300
        · have i3 : (N : Int) > 300 := by omega
          go_wp2
          go_roundw
          case rel => exact ⟨k + 1, N, P, Ls, bv, by omega, by rw [WK.out], ST.out⟩
          case measure =>
            rw [WK.out]
            simp only [intOf, Int.toNat_natCast]
            omega
        · have i3 : ¬ (N : Int) > 300 := by omega
          by_cases hL' : Ls t > 65536
          · have i4 : (Ls t : Int) > 65536 := by omega
            go_wp2
            go_roundw
            case rel => exact ⟨k + 1, N, P, Ls, bv, by omega, by rw [WK.out], ST.out⟩
            case measure =>
              rw [WK.out]
              simp only [intOf, Int.toNat_natCast]
              omega
          · have i4 : ¬ (Ls t : Int) > 65536 := by omega
            obtain ⟨ap, cp, hpv, hxx⟩ := (HV.out.each k hlt).shape
            clear hxx
            have SP : Hid (SliceB w (.slice ap (pl k) cp) (pl k) (pp k)) := by rw [← hpv]; exact HV.out.each k hlt
            have NP : Hid (ap = none → cp = 0) := fun e => HV.out.nils k hlt cp (by rw [hpv, e])
            have PS : Hid (pl k ≤ 140737488351232) := HV.out.small k hlt
            have LS : Hid (Ls t ≤ 65536) := by show Ls t ≤ 65536; omega
            have c2 : (w'.alloc (.cells #[] 5)).cell? ⟨b, off + k * 3 + 2, none⟩ = some (.slice ap (pl k) cp) := by
              rw [below_cell (SB.out.alloc SB.out.size _) HCL.out.1, ← hpv]; exact (HCL.out.2 k hlt).2.2
            have E0 : Hid ((w'.alloc (.cells #[] 5)).ownsRow w'.heap.size 5 1 (.slice (some ⟨w'.heap.size, 0, none⟩) 0 0) 0 (vals [])) := own_empty w'
            have F0 : Hid (Below w'.heap.size w' (w'.alloc (.cells #[] 5))) := (Below.refl _ _).alloc (Nat.le_refl _) _
            have NB : Hid (bv t = .slice ab (Ls t) cbk) := hbv
            clear hbv hpv
            go_wp2_with (first
              | (refine isApp (.tmp 56) (.tmp 61) rfl ?_; go_must (refine wpList_appX (B := w'.heap.size) (l := []) (r := firstL (pp k) (pl k)) (w0 := w') rfl (.tmp 56) (.tmp 61) rfl rfl rfl E0.out (firstL_len _ _) (src_of (SP.out.below (SB.out.trans (F0.out.mono SB.out.size))) NP.out) (by have := PS.out; omega) F0.out F0.out.size ?_; intro v7 W7 own7 bel7 sz7; simp only [List.nil_append, Nat.zero_add] at own7; simp only [Act.put, List.setIfInBounds_toArray, List.set_cons_succ, List.set_cons_zero]; have O7 : Hid (W7.ownsRow w'.heap.size 5 1 v7 (pl k) (vals (firstL (pp k) (pl k)))) := own7; have B7 : Hid (Below w'.heap.size w' W7) := bel7; clear own7 bel7 sz7))
              | (refine isLoad 27 (.tmp 66) rfl ?_; go_must (refine wpList_load_mid rfl 27 (.tmp 66) rfl gh (t * 73) rfl (hB P Ls t).cells.toList _ (fun j v hv => by rw [below_cell B7.out HGH.out]; exact HRG.out j v hv) Tryd.underlying27 rfl (by rw [hs_len]; kernel_rfl) ?_; simp only [Act.put, List.setIfInBounds_toArray, List.set_cons_succ, List.set_cons_zero, Array.toArray_toList])))
            obtain ⟨a7, c7, rfl⟩ := own_form O7.out
            obtain ⟨P', hP'⟩ : ∃ P', P' = updN P N (cat (P t) (Ls t) (pp k)) := ⟨_, rfl⟩
            obtain ⟨Ls', hLs'⟩ : ∃ L', L' = updN Ls N (Ls t + pl k) := ⟨_, rfl⟩
            have eN : hB P' Ls' N = addN (hB P Ls t) (pp k) (pl k) := by
              unfold hB
              rw [hP', hLs', updN_at, updN_at, addN_cat]
            have eLt : Hid (∀ i, i < N → hB P Ls i = hB P' Ls' i) := fun i hi => by
              unfold hB
              rw [hP', hLs', updN_lt hi, updN_lt hi]
            have HP' : Hid (_) := hP'
            have HLs' : Hid (_) := hLs'
            have BT : Hid (∀ j, j < Ls t → 0 ≤ P t j ∧ P t j < 256) := BKk.out.bytes
            have r := add_any (hB P Ls t) _ (pl k) (pp k) W7 (HG.out.below (SB.out.trans (B7.out.mono SB.out.size)) HG.out.sz) (ok_hB BT.out) (by rw [hB_n]; have := PS.out; have := LS.out; omega) (sliceB_own O7.out SP.out.bytes)
            rw [← eN] at r
            refine r.mono ?_
            rintro e W8 ⟨rfl, hb8⟩
            have B8 : Hid (Below w'.heap.size w' W8) := B7.out.trans (hb8.mono B7.out.size)
            have O8 : Hid (W8.ownsRow w'.heap.size 5 1 (.slice a7 (pl k) c7) (pl k) (vals (firstL (pp k) (pl k)))) := own_below O7.out hb8
            clear r hb8 eN hP' hLs' c2 E0 F0 O7 B7 cbv c1
            go_wp2_with (first
              | (refine isBsH (.tmp 69) rfl ?_; go_must (refine wpList_bsH (s := hB P' Ls' N) rfl (.tmp 69) rfl rfl ?_; simp only [Act.put, List.setIfInBounds_toArray, List.set_cons_succ, List.set_cons_zero]; obtain ⟨gn, hgn⟩ : ∃ G, G = W8.heap.size := ⟨_, rfl⟩; obtain ⟨V8, hV8⟩ : ∃ V, V = W8.alloc (.cells (hB P' Ls' N).cells 27) := ⟨_, rfl⟩; have bV8 : Below W8.heap.size W8 V8 := (by rw [hV8]; exact (Below.refl _ _).alloc (Nat.le_refl _) _); have RN : Hid (V8.heap[gn]? = some (.cells (hB P' Ls' N).cells 27)) := (by rw [hV8, hgn]; exact heap_alloc_new _ _); have BV8 : Hid (Below w'.heap.size w' V8) := B8.out.trans (bV8.mono B8.out.size); have OV8 : Hid (V8.ownsRow w'.heap.size 5 1 (.slice a7 (pl k) c7) (pl k) (vals (firstL (pp k) (pl k)))) := own_below O8.out bV8; have SV8 : Hid (St w V8 (.slice (some ⟨gh, 0, none⟩) N ch) (.slice (some ⟨gb, 0, none⟩) N cb) N P Ls bv) := ST.out.below BV8.out; rw [← hV8, ← hgn]; clear hV8 hgn bV8))
              | (refine isAppH (.tmp 63) (.tmp 70) rfl ?_; go_must (refine wpList_appH (S := hB P' Ls') (v := .slice (some ⟨gh, 0, none⟩) N ch) rfl (.tmp 63) (.tmp 70) rfl rfl ⟨gn, 0, none⟩ rfl (by rw [← hL_congr N eLt.out]; exact SV8.out.hs) (fun j u hu => by rw [Addr.add_mid, Nat.zero_add, cell_of_row _ _ _ _ _ _ RN.out]; simpa using hu) (by have := HNN.out; omega) SV8.out.bel.size ?_; intro v3n W9 own9 gr9; simp only [Act.put, List.setIfInBounds_toArray, List.set_cons_succ, List.set_cons_zero]; have kp : Keep 27 V8 W9 := keep_grown SV8.out.hs gr9; have H9 : Hid (W9.ownsRow w.heap.size 27 73 v3n (N + 1) (hL (hB P' Ls') (N + 1))) := own9; have BS9 : Hid (W9.ownsRow w.heap.size 33 1 (.slice (some ⟨gb, 0, none⟩) N cb) N (bL bv N)) := own_keep SV8.out.bs (by decide) kp; have BK9 : Hid (∀ i, i < N → Bk W9 (bv i) (Ls i) (P i)) := (fun i hi => (SV8.out.bk i hi).1.keep (by decide) kp); have O9 : Hid (W9.ownsRow w'.heap.size 5 1 (.slice a7 (pl k) c7) (pl k) (vals (firstL (pp k) (pl k)))) := own_keep OV8.out (by decide) kp; have B9 : Hid (Below w.heap.size w W9) := SV8.out.bel.grown gr9 SV8.out.bel.size (fun x hx => (SV8.out.hs.lt x hx).1); have Z9 : Hid (w'.heap.size ≤ W9.heap.size) := Nat.le_trans BV8.out.size kp.1; have cb9 : (W9.alloc (.cells #[] 5)).cell? ⟨gb, t, none⟩ = some (.slice ab (Ls t) cbk) := (by obtain ⟨g', c', e', lt', hc'⟩ := own_g BS9.out HNN.out.1; cases e'; rw [below_cell ((Below.refl W9.heap.size W9).alloc (Nat.le_refl _) _) lt', hc' t _ (bL_get bv N t HTN.out), NB.out]); have E9 : Hid ((W9.alloc (.cells #[] 5)).ownsRow W9.heap.size 5 1 (.slice (some ⟨W9.heap.size, 0, none⟩) 0 0) 0 (vals [])) := own_empty W9; have F9 : Hid (Below W9.heap.size W9 (W9.alloc (.cells #[] 5))) := (Below.refl _ _).alloc (Nat.le_refl _) _; have SK9 : Hid (SliceB (W9.alloc (.cells #[] 5)) (.slice ab (Ls t) cbk) (Ls t) (P t)) := (by rw [← NB.out]; exact ((BK9.out t HTN.out).below F9.out).sliceB); have NK9 : Hid (ab = none → cbk = 0) := (fun e' => (BK9.out t HTN.out).nil cbk (by rw [NB.out, e'])); clear own9 gr9 kp))
              | (refine isApp (.tmp 73) (.tmp 77) rfl ?_; go_must (refine wpList_appX (B := W9.heap.size) (l := []) (r := firstL (P t) (Ls t)) (w0 := W9) rfl (.tmp 73) (.tmp 77) rfl rfl rfl E9.out (firstL_len _ _) (src_of SK9.out NK9.out) (by have := LS.out; omega) F9.out F9.out.size ?_; intro v78 W10 own10 bel10 sz10; simp only [List.nil_append, Nat.zero_add] at own10; simp only [Act.put, List.setIfInBounds_toArray, List.set_cons_succ, List.set_cons_zero]; have O10 : Hid (W10.ownsRow W9.heap.size 5 1 v78 (Ls t) (vals (firstL (P t) (Ls t)))) := own10; have B10 : Hid (Below W9.heap.size W9 W10) := bel10; have SP10 : Hid (SliceB W10 (.slice a7 (pl k) c7) (pl k) (pp k)) := sliceB_own (own_below O9.out bel10) SP.out.bytes; have NP10 : Hid (a7 = none → c7 = 0) := (fun e' => own_nil O9.out c7 (by rw [e'])); clear own10 bel10 sz10))
              | (refine isApp (.tmp 78) (.tmp 79) rfl ?_; go_must (refine wpList_appX (B := W9.heap.size) (l := firstL (P t) (Ls t)) (r := firstL (pp k) (pl k)) (w0 := W9) rfl (.tmp 78) (.tmp 79) rfl rfl rfl O10.out (firstL_len _ _) (src_of SP10.out NP10.out) (by have := LS.out; have := PS.out; omega) B10.out B10.out.size ?_; intro v80 W11 own11 bel11 sz11; rw [firstL_cat] at own11; obtain ⟨a80, c80, rfl⟩ := own_form own11; simp only [Act.put, List.setIfInBounds_toArray, List.set_cons_succ, List.set_cons_zero]; have O11 : Hid (W11.ownsRow W9.heap.size 5 1 (.slice a80 (Ls t + pl k) c80) (Ls t + pl k) (vals (firstL (cat (P t) (Ls t) (pp k)) (Ls t + pl k)))) := own11; have B11 : Hid (Below W9.heap.size W9 W11) := bel11; clear own11 bel11 sz11))
              | (refine isAppB (.tmp 72) (.tmp 81) rfl ?_; obtain ⟨V11, hV11⟩ : ∃ V, V = W11.alloc (.cells #[.slice a80 (Ls t + pl k) c80] 33) := ⟨_, rfl⟩; obtain ⟨gq, hgq⟩ : ∃ G, G = W11.heap.size := ⟨_, rfl⟩; obtain ⟨bv', hbv'⟩ : ∃ b', b' = updN bv N (.slice a80 (Ls t + pl k) c80) := ⟨_, rfl⟩; have bV : Below W9.heap.size W9 V11 := (by rw [hV11]; exact B11.out.alloc B11.out.size _); have RQ : V11.heap[gq]? = some (.cells #[.slice a80 (Ls t + pl k) c80] 33) := (by rw [hV11, hgq]; exact heap_alloc_new _ _); have SV11 : V11.ownsRow w.heap.size 33 1 (.slice (some ⟨gb, 0, none⟩) N cb) N (bL bv N) := own_keep (e := 6) BS9.out (by decide) (keep_below 6 bV); have bw : Below w.heap.size w V11 := B9.out.trans (bV.mono B9.out.size); have O11V : V11.ownsRow W9.heap.size 5 1 (.slice a80 (Ls t + pl k) c80) (Ls t + pl k) (vals (firstL (cat (P t) (Ls t) (pp k)) (Ls t + pl k))) := (by rw [hV11]; exact O11.out.alloc _); go_must (rw [← hV11, ← hgq]; refine wpList_appB (b := bv') (v := .slice (some ⟨gb, 0, none⟩) N cb) rfl (.tmp 72) (.tmp 81) rfl rfl ⟨gq, 0, none⟩ rfl (by rw [bL_congr N (b' := bv) (fun i hi => by rw [hbv', updN_lt hi])]; exact SV11) (by rw [Addr.add_mid, cell_of_row _ _ _ _ _ _ RQ, hbv', updN_at]; rfl) (by rw [hbv', updN_at]; rfl) (by have := HNN.out; omega) bw.size ?_; intro v4n W12 own12 gr12; simp only [Act.put, List.setIfInBounds_toArray, List.set_cons_succ, List.set_cons_zero]; have kq : Keep 33 V11 W12 := keep_grown SV11 gr12; have B12 : Hid (Below w.heap.size w W12) := bw.grown gr12 bw.size (fun x hx => (SV11.lt x hx).1); have H12 : Hid (W12.ownsRow w.heap.size 27 73 v3n (N + 1) (hL (hB P' Ls') (N + 1))) := own_keep (own_keep (e := 6) H9.out (by decide) (keep_below 6 bV)) (by decide) kq; have BS12 : Hid (W12.ownsRow w.heap.size 33 1 v4n (N + 1) (bL bv' (N + 1))) := own12; have BKo : Hid (∀ i, i < N → Bk W12 (bv i) (Ls i) (P i)) := (fun i hi => ((BK9.out i hi).keep (e := 6) (by decide) (keep_below 6 bV)).keep (by decide) kq); have BKn : Hid (Bk W12 (.slice a80 (Ls t + pl k) c80) (Ls t + pl k) (cat (P t) (Ls t) (pp k))) := (bk_own O11V (cat_bd BT.out SP.out.bytes)).keep (by decide) kq; have OP : Hid (W12.ownsRow w'.heap.size 5 1 (.slice a7 (pl k) c7) (pl k) (vals (firstL (pp k) (pl k)))) := own_keep (own_keep (e := 6) O9.out (by decide) (keep_below 6 bV)) (by decide) kq; have HBV' : Hid (bv' = updN bv N (.slice a80 (Ls t + pl k) c80)) := hbv'; clear own12 gr12 kq bV RQ SV11 bw O11V hV11 hgq hbv')))
            have NEW : Hid (∀ g cap, .slice a80 (Ls t + pl k) c80 = Value.slice (some ⟨g, 0, none⟩) (Ls t + pl k) cap → W9.heap.size ≤ g) := fun g cap e => by
              rcases O11.out.2 with ⟨e2, _⟩ | ⟨g', cap', cur, e2, hb2, _⟩
              · rw [e2] at e; cases e
              · rw [e2] at e
                simp only [Value.slice.injEq, Option.some.injEq, Addr.mk.injEq] at e
                obtain ⟨⟨rfl, _⟩, _⟩ := e
                exact hb2
            have OLD : Hid (∀ i, i < N → ∀ g cap, bv i = .slice (some ⟨g, 0, none⟩) (Ls i) cap → g < w'.heap.size) := fun i hi => (ST.out.bk i hi).1.lt
            have LSo : Hid (∀ i, i < N → Ls i ≤ 150000000000000) := fun i hi => (ST.out.bk i hi).2
            have fin : Hid (∀ W, Below w.heap.size w W → W.ownsRow w.heap.size 27 73 v3n (N + 1) (hL (hB P' Ls') (N + 1)) → W.ownsRow w.heap.size 33 1 v4n (N + 1) (bL bv' (N + 1)) → (∀ i, i < N → Bk W (bv i) (Ls i) (P i)) → Bk W (.slice a80 (Ls t + pl k) c80) (Ls t + pl k) (cat (P t) (Ls t) (pp k)) → St w W v3n v4n (N + 1) P' Ls' bv') := fun W h1 h2 h3 h4 h5 => by
              have hN1 := HNN.out
              refine ⟨by omega, by omega, h2, h3, fun i hi => ?_, h1⟩
              by_cases e : i = N
              · subst e
                rw [HBV'.out, HLs'.out, HP'.out, updN_at, updN_at, updN_at]
                exact ⟨h5, by have := LS.out; have := PS.out; omega⟩
              · have hi' : i < N := by omega
                rw [HBV'.out, HLs'.out, HP'.out, updN_lt hi', updN_lt hi', updN_lt hi']
                exact ⟨h4 i hi', LSo.out i hi'⟩
            clear ST HRG HBV BKk BKl CHH CBB HGH HGB O8 B8 SV8 OV8 BV8 RN E9 F9 SK9 NK9 cb9 O10 B10 SP10 NP10 O11 B11
            by_cases hp0 : 0 < pl k
            · obtain ⟨gp, cap7, e7, hbase, _, _, rp⟩ := own_rowP OP.out hp0
              simp only [Value.slice.injEq] at e7
              obtain ⟨rfl, _, rfl⟩ := e7
              have GP : Hid (w'.heap.size ≤ gp ∧ gp < W9.heap.size) := by
                refine ⟨hbase, ?_⟩
                exact (O9.out.lt gp rfl).2
              have RP : Hid (RowP W12 gp (pl k) (pp k)) := rp
              clear hbase rp
              go_wp2
              go_loopw [8] (fun i W => ∃ (m : Nat) (f : Nat → Int), m ≤ pl k ∧ i = .int .i64 m ∧ RowP W gp (pl k) f ∧ Save (fun g => g = gp) W12 W) (fun i _ => pl k - (intOf i).toNat)
              case atStart => exact ⟨0, _, by omega, rfl, RP.out, Save.refl _ _⟩
              case round =>
                obtain ⟨m, f, hm, rfl, hr, hs⟩ := hrel
                have RF : Hid (RowP wr gp (pl k) f) := hr
                have SF : Hid (Save (fun g => g = gp) W12 wr) := hs
                clear hr hs
                by_cases hmp : m < pl k
                · have i5 : (m : Int) < pl k := by omega
                  obtain ⟨q1, q2⟩ := RF.out.cell hmp
                  have wm : wrap64 ((m : Int) + 1) = ((m + 1 : Nat) : Int) := by have := PS.out; simp [wrap64]; omega
                  have WM : Hid (_) := wm
                  clear wm
                  go_wp2
                  go_roundw
                  case rel => exact ⟨m + 1, _, by omega, by rw [WM.out], RF.out.set _ hmp, SF.out.cell _ rfl⟩
                  case measure =>
                    rw [WM.out]
                    simp only [intOf, Int.toNat_natCast]
                    omega
                · have SW : Hid (St w wr v3n v4n (N + 1) P' Ls' bv') := by
                    have gp1 := GP.out
                    have wl := B12.out.size
                    refine fin.out wr (B12.out.trans (SF.out.to_below wl (fun g e => ?_))) (own_save H12.out (by decide) RP.out SF.out) (own_save BS12.out (by decide) RP.out SF.out) (fun i hi => (BKo.out i hi).save (fun g cap e => ?_) SF.out) (BKn.out.save (fun g cap e => ?_) SF.out)
                    · have e' : g = gp := e
                      have := SB.out.size
                      omega
                    · have := OLD.out i hi g cap e
                      omega
                    · have := NEW.out g cap e
                      omega
                  go_wp2
                  go_roundw
                  case rel => exact ⟨k + 1, N + 1, P', Ls', bv', by omega, by rw [WK.out], SW.out⟩
                  case measure =>
                    rw [WK.out]
                    simp only [intOf, Int.toNat_natCast]
                    omega
            · have hz : pl k = 0 := by omega
              have SW : Hid (St w W12 v3n v4n (N + 1) P' Ls' bv') := fin.out W12 B12.out H12.out BS12.out BKo.out BKn.out
              have i5 : ¬ (0 : Int) < (pl k : Int) := by omega
              go_wp2
              go_loopw [8] (fun i W => i = .int .i64 0 ∧ St w W v3n v4n (N + 1) P' Ls' bv') (fun _ _ => 0)
              case atStart => exact ⟨rfl, SW.out⟩
              case round =>
                obtain ⟨rfl, st2⟩ := hrel
                have S2 : Hid (_) := st2
                clear st2
                go_wp2
                go_roundw
                case rel => exact ⟨k + 1, N + 1, P', Ls', bv', by omega, by rw [WK.out], S2.out⟩
                case measure =>
                  rw [WK.out]
                  simp only [intOf, Int.toNat_natCast]
                  omega
    · go_wp2
      go_loopw [9] (fun v9 W => ∃ t : Nat, t ≤ N ∧ v9 = .int .i64 t ∧ St w W (.slice (some ⟨gh, 0, none⟩) N ch) (.slice (some ⟨gb, 0, none⟩) N cb) N P Ls bv) (fun v9 _ => N - (intOf v9).toNat)
      case atStart => exact ⟨0, by omega, rfl, ST.out⟩
      case round =>
        obtain ⟨t, ht, rfl, st⟩ := hrel
        obtain ⟨gh', ch', e1, lth, chh⟩ := own_g st.hs st.one
        obtain ⟨gb', cb', e2, ltb, cbb⟩ := own_g st.bs st.one
        simp only [Value.slice.injEq, Option.some.injEq, Addr.mk.injEq] at e1 e2
        obtain ⟨⟨rfl, _⟩, _, rfl⟩ := e1
        obtain ⟨⟨rfl, _⟩, _, rfl⟩ := e2
        clear ST HGH HGB CHH CBB SB
        have ST : Hid (St w wr (.slice (some ⟨gh, 0, none⟩) N ch) (.slice (some ⟨gb, 0, none⟩) N cb) N P Ls bv) := st
        have HGH : Hid (gh < wr.heap.size) := lth
        have HGB : Hid (gb < wr.heap.size) := ltb
        have SB : Hid (Below w.heap.size w wr) := st.bel
        by_cases htN : t < N
        · have i1 : (t : Int) < N := by omega
          have HTN : Hid (t < N) := htN
          have BKk : Hid (Bk wr (bv t) (Ls t) (P t)) := (st.bk t htN).1
          have BKl : Hid (Ls t ≤ 150000000000000) := (st.bk t htN).2
          have HRG : Hid (wr.rangeAt gh (t * 73) (hB P Ls t).cells.toList) := range_h chh htN
          have HBV : Hid (wr.cell? ⟨gb, t, none⟩ = some (bv t)) := cbb t _ (bL_get bv N t htN)
          clear st lth ltb chh cbb
          go_wp2_with fail
          refine wp_region_slotsA 11 112 [101, 102, 103, 104, 105, 106, 107, 108, 109, 110, 111] (fun j v _ => cmS (.slice (some ⟨gh, 0, none⟩) N ch) (.slice (some ⟨gb, 0, none⟩) N cb) (bv t) gh gb t (hB P Ls t) j v) (by kernel_rfl) (by kernel_rfl) (by kernel_rfl) (by decide) rfl rfl (by decide) (by decide) (fun _ _ _ _ h _ => h) ?_ ?_
          · intro j hj a W hB' hf hdep
            have kb := (BKk.out).below hB'
            have hr : W.rangeAt gh (t * 73) (hB P Ls t).cells.toList := fun j v hv => by
              rw [below_cell hB' HGH.out]; exact HRG.out j v hv
            have cb' : W.cell? ⟨gb, t, none⟩ = some (bv t) := by rw [below_cell hB' HGB.out]; exact HBV.out
            have gW : Below w.heap.size w W := SB.out.trans (hB'.mono SB.out.size)
            match j, hj with
            | 0, _ => exact stepV rfl rfl (execMove rfl) ⟨_, rfl, hf 3 (by decide), Below.refl _ _⟩
            | 1, _ => exact stepV rfl rfl (execMove rfl) ⟨_, rfl, hf 9 (by decide), Below.refl _ _⟩
            | 2, _ =>
              have h0 : a.eval (.tmp 101) = .slice (some ⟨gh, 0, none⟩) N ch := hdep _ rfl 0 rfl
              have h1 : a.eval (.tmp 102) = .int .i64 (t : Int) := hdep _ rfl 1 rfl
              exact stepV rfl rfl (execIdxH rfl h0 h1 HTN.out) ⟨_, rfl, rfl, Below.refl _ _⟩
            | 3, _ =>
              have h0 : a.eval (.tmp 103) = .pointer (some ⟨gh, t * 73, none⟩) := hdep _ rfl 2 rfl
              exact stepV rfl rfl (execLoadH rfl h0 hr) ⟨_, rfl, rfl, Below.refl _ _⟩
            | 4, _ =>
              have h0 : a.eval (.tmp 104) = .agg (hB P Ls t).cells := hdep _ rfl 3 rfl
              exact stepC rfl rfl (execCall1 Tryd.func11 (by kernel_rfl) (by kernel_rfl) rfl h0) (hsum_any (hB P Ls t) W (HG.out.below gW HG.out.sz) (ok_hB kb.bytes)) fun e w' h => ⟨_, h.1, _, rfl, rfl, h.2⟩
            | 5, _ => exact stepV rfl rfl (execMove rfl) ⟨_, rfl, hf 4 (by decide), Below.refl _ _⟩
            | 6, _ => exact stepV rfl rfl (execMove rfl) ⟨_, rfl, hf 9 (by decide), Below.refl _ _⟩
            | 7, _ =>
              have h0 : a.eval (.tmp 106) = .slice (some ⟨gb, 0, none⟩) N cb := hdep _ rfl 5 rfl
              have h1 : a.eval (.tmp 107) = .int .i64 (t : Int) := hdep _ rfl 6 rfl
              exact stepV rfl rfl (execIdxB rfl h0 h1 HTN.out) ⟨_, rfl, rfl, Below.refl _ _⟩
            | 8, _ =>
              have h0 : a.eval (.tmp 108) = .pointer (some ⟨gb, t, none⟩) := hdep _ rfl 7 rfl
              exact stepV rfl rfl (exec_load33 rfl h0 cb') ⟨_, rfl, rfl, Below.refl _ _⟩
            | 9, _ =>
              have h0 : a.eval (.tmp 109) = bv t := hdep _ rfl 8 rfl
              exact stepC rfl rfl (execCall1 Tryd.func14 (by kernel_rfl) (by kernel_rfl) rfl h0) (rsum_is (bv t) (Ls t) (P t) W (by have := BKl.out; omega) kb.sliceB kb.nil) fun e w' h => ⟨_, h.1, _, rfl, rfl, h.2⟩
            | 10, _ =>
              have h0 : a.eval (.tmp 105) = .agg (tab8 32 (sumD (hB P Ls t))) := hdep _ rfl 4 rfl
              have h1 : a.eval (.tmp 110) = .agg (tab8 32 (sumD (hB P Ls t))) := hdep _ rfl 9 rfl
              exact stepV rfl rfl (exec_neq28 rfl h0 h1) ⟨_, rfl, by rw [eq32_self]; rfl, Below.refl _ _⟩
            | k + 11, hj => exact absurd hj (by omega)
          · intro x W hB' hS
            have e10 : x 10 = .bool false := hS 10 (by omega)
            have S2 : Hid (St w W (.slice (some ⟨gh, 0, none⟩) N ch) (.slice (some ⟨gb, 0, none⟩) N cb) N P Ls bv) := ST.out.below hB'
            simp only [putL, List.drop_succ_cons, List.drop_nil, e10, Act.put, List.setIfInBounds_toArray, List.set_cons_succ, List.set_cons_zero]
            clear hS hB' e10
            have wt : wrap64 ((t : Int) + 1) = ((t + 1 : Nat) : Int) := by have := HNN.out; simp [wrap64]; omega
            have WT : Hid (_) := wt
            clear wt
            go_wp2
            go_roundw
            case rel => exact ⟨t + 1, by omega, by rw [WT.out], S2.out⟩
            case measure =>
              rw [WT.out]
              simp only [intOf, Int.toNat_natCast]
              omega
        · clear st lth ltb chh cbb
          go_wp2
          go_ret
          exact ⟨rfl, SB.out⟩
end Hs
end Go.Proofs.YtedjoakpbknflaaDoor
