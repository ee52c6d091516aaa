import Derived.Test.YtaoncjgllcndmaaDoorD3f
import Derived.Test.YtaoncjgllcndmaaDoorD3k
import Derived.Test.YtaoncjgllcndmaaDoorD1c
import Derived.Test.YtaoncjgllcndmaaDoorD2l
import Derived.Deep.RegionWith
namespace Go.Proofs.YtaoncjgllcndmaaDoor.Frm
open Go.RowKit Gf8 Aes By8 Cel
/- The reference's Pack, whole; copied. -/

theorem rpack_any (rd ep lf : Int) (n : Nat) (cv : Value) (xv : Nat → Value) (ln : Nat → Nat) (c : Nat → Nat → Nat) (V : World) (hc : Cells V cv n xv ln c) (hn : n ≤ 140737488351232) :
    Calls Tryd.prog 12 #[.agg (bC rd ep lf cv)] V fun e w' => ∃ r, e = .returned (.tuple #[r, .int .i64 (packE rd ep lf n ln : Nat)]) ∧ w'.ownsRow V.heap.size 5 1 r (packN rd ep lf n ln) (bytesL (packN rd ep lf n ln) (packI rd ep lf n c)) ∧ Below V.heap.size V w' := by
  by_cases hh : hdOk rd ep lf = true
  · obtain ⟨r, e, l, rfl, rfl, rfl, h1, h2, h3⟩ : ∃ r e l : Nat, rd = r ∧ ep = e ∧ lf = l ∧ l ≤ 8 ∧ r < 4611686018427387904 ∧ e ≤ 4611686018427387904 := by
      unfold hdOk at hh
      simp at hh
      exact ⟨rd.toNat, ep.toNat, lf.toNat, by omega, by omega, by omega, by omega, by omega, by omega⟩
    have := rpack_ok r e l n cv xv ln c V hc hn h1 h2 h3
    have eE : packE r e l n ln = if n ≤ 256 then (if allC n ln then 0 else 64) else 63 := by unfold packE; rw [if_pos hh]
    have eN : packN r e l n ln = if n ≤ 256 ∧ allC n ln = true then cellAt n + 4 else 0 := by
      unfold packN
      rw [eE]
      by_cases a : n ≤ 256
      · by_cases b : allC n ln = true
        · rw [if_pos a, if_pos b, if_pos rfl, if_pos ⟨a, b⟩]
        · rw [if_pos a, if_neg b, if_neg (by omega), if_neg (fun q => b q.2)]
      · rw [if_neg a, if_neg (by omega), if_neg (fun q => a q.1)]
    rw [eE, eN]
    exact this
  · have hf : hdOk rd ep lf = false := by simpa using hh
    refine (rpack_bad rd ep lf cv V hf).mono ?_
    rintro e w ⟨rfl, b⟩
    have eE : packE rd ep lf n ln = 62 := by unfold packE; rw [if_neg hh]
    have eN : packN rd ep lf n ln = 0 := by unfold packN; rw [eE]; rfl
    rw [eE, eN]
    exact ⟨_, rfl, World.ownsRow_nil _ _ _ _, b⟩
/-- n new rows, in a new list. -/
structure CF (B n : Nat) (x : Nat → Value) (ln : Nat → Nat) (c : Nat → Nat → Nat) (cv : Value) (W : World) : Prop where
  own : W.ownsRow B 30 1 cv n (xsL x 0 n)
  fam : Fam B n x ln c W
theorem CF.on {B k : Nat} {x : Nat → Value} {ln : Nat → Nat} {c : Nat → Nat → Nat} {cv : Value} {W W' : World} (h : CF B k x ln c cv W) (hb : Below W.heap.size W W') : CF B k x ln c cv W' := ⟨ownL_below h.own hb, h.fam.on hb⟩
theorem CF.base {B C k : Nat} {x : Nat → Value} {ln : Nat → Nat} {c : Nat → Nat → Nat} {cv : Value} {W : World} (h : CF C k x ln c cv W) (hB : B ≤ C) : CF B k x ln c cv W := ⟨ownL_base h.own hB, ⟨fun t ht => own_base (h.fam.rows t ht) hB, h.fam.dis⟩⟩
theorem own_nilR {W : World} {B n : Nat} {v : Value} {xs : List Value} (h : W.ownsRow B 5 1 v n xs) : ∀ l c, v = .slice none l c → c = 0 := own_nil h
theorem CF.cells {B k : Nat} {x : Nat → Value} {ln : Nat → Nat} {c : Nat → Nat → Nat} {cv : Value} {W : World} (h : CF B k x ln c cv W) (hb : ∀ i j, i < k → j < ln i → c i j < 256) (hl : ∀ i, i < k → ln i ≤ 140737488351232) : Cells W cv k x ln c := by
  refine ⟨?_, fun i hi => own_slice (h.fam.rows i hi) fun j hj => hb i j hi hj, fun i hi => own_nilR (h.fam.rows i hi), hl⟩
  by_cases h0 : 0 < k
  · obtain ⟨g, cap, rfl, hB, hg, hc⟩ := ownL_cells h.own h0
    have : k ≤ cap ∧ cap < 9223372036854775808 := by
      rcases h.own.2 with ⟨e, _⟩ | ⟨g', cap', cur, e, _, _, h1, h2, _⟩
      · cases e
      · injection e with _ _ e3
        unfold maxLen at h2
        omega
    exact ⟨_, cap, rfl, this.1, this.2, fun _ => ⟨g, 0, rfl, hg, fun i hi => by rw [Nat.zero_add]; have := hc i hi; rw [Nat.zero_add] at this; exact this⟩⟩
  · obtain ⟨ao, cap, rfl⟩ := ownL_shape h.own
    have : k ≤ cap ∧ cap < 9223372036854775808 := by
      rcases h.own.2 with ⟨e, _⟩ | ⟨g', cap', cur, e, _, _, h1, h2, _⟩
      · injection e with _ _ e3
        omega
      · injection e with _ _ e3
        unfold maxLen at h2
        omega
    exact ⟨ao, cap, rfl, this.1, this.2, fun q => absurd q h0⟩
set_option maxRecDepth 20000 in
set_option maxHeartbeats 1000000 in
theorem lcopied_any (cv : Value) (n : Nat) (xv : Nat → Value) (ln : Nat → Nat) (c : Nat → Nat → Nat) (V : World) (hc : Cells V cv n xv ln c) (hn : n ≤ 2097152) :
    Calls Tryd.prog 11 #[cv] V fun e w' => ∃ r x, e = .returned r ∧ CF V.heap.size n x ln c r w' ∧ Below V.heap.size V w' := by
  obtain ⟨ca, ccap, rfl, hs1, hs2, hs⟩ := id hc.shape
  have HB : Hid (Cells V (.slice ca n ccap) n xv ln c ∧ n ≤ 2097152) := ⟨hc, hn⟩
  have HS : Hid (0 < n → ∃ b off, ca = some ⟨b, off, none⟩ ∧ b < V.heap.size ∧ ∀ i, i < n → V.cell? ⟨b, off + i, none⟩ = some (xv i)) := hs
  have nn : (n : Int) ≤ 2097152 := by omega
  clear hc hs hn hs1 hs2
  go_enter Tryd.func11, Tryd.ntmps11
  go_wp2_with fail
  go_loopw [3, 8] (fun u z W => ∃ (i : Nat) (x : Nat → Value), i ≤ n ∧ z = .int .i64 (i : Int) ∧ CF V.heap.size i x ln c u W ∧ Below V.heap.size V W) (fun _ z _ => n - (intOf z).toNat)
  case atStart => exact ⟨0, fun _ => undef, Nat.zero_le _, rfl, ⟨World.ownsRow_nil _ _ _ _, Fam.none _ _ _ _ _⟩, Below.refl _ _⟩
  case round =>
    obtain ⟨i, x, hi, rfl, cf, bel⟩ := hrel
    by_cases hlt : i < n
    · have i1 : (i : Int) < n := by omega
      obtain ⟨b, off, rfl, hb, hcell⟩ := HS.out (by omega)
      have c1 : wr.cell? ⟨b, off + i, none⟩ = some (xv i) := by rw [cell_below bel hb]; exact hcell i hlt
      have HK : Hid (i < n ∧ CF V.heap.size i x ln c _ wr ∧ Below V.heap.size V wr) := ⟨hlt, cf, bel⟩
      clear hlt hi hb hcell cf bel
      go_wp2_with (first
        | (refine atAppB (.tmp 13) (.tmp 14) rfl ?_; go_must (refine wpList_appS (B := wr.heap.size) (n := 0) (m := ln i) (p := c i) rfl (.tmp 13) (.tmp 14) rfl rfl rfl (own_none wr (c i)) (sliceN_cg (((HB.out.1.cell i HK.out.1).on HK.out.2.2).on (belNew wr _)) fun j _ => by rw [Nat.zero_add]) (HB.out.1.nil i HK.out.1) (by have := HB.out.1.lens i HK.out.1; omega) (belNew wr _).size ?_; intro u W1 own1 gr1; have b1 : Below wr.heap.size wr W1 := below_grown (belNew wr _) (belNew wr _).size (own_none wr (c i)) gr1; rw [Nat.zero_add] at own1; have O1 : Hid (W1.ownsRow wr.heap.size 5 1 u (ln i) (bytesL (ln i) (c i)) ∧ Below wr.heap.size wr W1) := ⟨own1, b1⟩; clear own1 gr1 b1))
        | (refine atBs1 (.tmp 15) rfl ?_; go_must (refine wpList_ex rfl (execBs1 (r := u) rfl rfl (by obtain ⟨ao, cap, e⟩ := own_shapeJ O1.out.1; exact ⟨ao, _, cap, e⟩)) ?_))
        | (refine atAppLL (.tmp 12) (.tmp 16) rfl ?_; go_must (
            have cw := HK.out.2.1.on O1.out.2
            have ow : (W1.alloc (.cells #[u] 30)).ownsRow V.heap.size 30 1 _ i (xsL (updX x i u) 0 i) := (by rw [xsL_congr (y := x) fun t ht => updX_lt _ _ (by omega)]; exact (cw.on (belNew W1 _)).own)
            have hB : V.heap.size ≤ wr.heap.size := HK.out.2.2.size
            have fw := ((HK.out.2.1.fam.add O1.out.2 hB O1.out.1).on (belNew W1 (.cells #[u] 30)))
            have bw : Below V.heap.size V (W1.alloc (.cells #[u] 30)) := (HK.out.2.2.trans (O1.out.2.mono hB)).trans ((belNew W1 _).mono (Nat.le_trans hB O1.out.2.size))
            refine wpList_appL (b := 0) (n := i) (m := 1) (x := updX x i u) (cs := #[u]) rfl (.tmp 12) (.tmp 16) rfl rfl rfl ow (heapNew W1 _) (by show [u] = [updX x i u (0 + i + 0)]; rw [Nat.zero_add, Nat.add_zero, updX_at]) (fun z hz => by simp only [List.mem_singleton] at hz; rw [hz]; exact own_oneCell O1.out.1) (by have := HK.out.1; have := HB.out.2; omega) bw.size ?_
            intro v' W5 own5 gr5
            have C5 : Hid (CF V.heap.size (i + 1) (updX x i u) ln c v' W5 ∧ Below V.heap.size V W5) := ⟨⟨own5, fw.grown ow (grown_row gr5)⟩, bw.grown (grown_row gr5) bw.size (fun k hk => (ow.lt k hk).1)⟩
            clear own5 gr5 ow hB fw bw cw)))
      go_roundw
      case rel => exact ⟨i + 1, updX x i u, HK.out.1, by go_num, C5.out.1, C5.out.2⟩
      case measure => have := HK.out.1; simp [intOf]; omega
    · have ei : i = n := by omega
      subst ei
      have i1 : ¬ (i : Int) < i := by omega
      have HK : Hid (CF V.heap.size i x ln c _ wr ∧ Below V.heap.size V wr) := ⟨cf, bel⟩
      clear cf bel hi hlt
      go_wp2
      go_ret
      exact ⟨_, rfl, ⟨x, HK.out.1⟩, HK.out.2⟩
end Go.Proofs.YtaoncjgllcndmaaDoor.Frm

namespace Go.Proofs.YtaoncjgllcndmaaDoor.Frm
open Go.RowKit Gf8 Aes By8 Cel
/- What lies in FramePacks. -/

theorem ownL_staysT {W : World} {B n b k : Nat} {v u : Value} {xs : List Value} {c : Array Value} (h : W.ownsRow B 30 1 v n xs) (hb : W.heap[b]? = some (.cells c 5)) : (W.setCell ⟨b, k, none⟩ u).ownsRow B 30 1 v n xs := by
  refine ⟨h.1, ?_⟩
  rcases h.2 with h | ⟨g, cap, cur, e, hB, hg, h2⟩
  · exact Or.inl h
  · refine Or.inr ⟨g, cap, cur, e, hB, ?_, h2⟩
    rw [heap4o _ hb (fun e => by subst e; rw [hg] at hb; simp at hb)]
    exact hg
/-- The batch of copies in block I; m rows of one's own, the first n of them its cells. -/
structure PaS (I : Nat) (rd ep lf : Int) (n : Nat) (lv : Value) (y : Nat → Value) (m : Nat) (nn : Nat → Nat) (ff : Nat → Nat → Nat) (V W : World) : Prop where
  i : W.heap[I]? = some (.cells (bC rd ep lf lv) 26)
  own : W.ownsRow V.heap.size 30 1 lv n (xsL y 0 n)
  fam : Fam V.heap.size m y nn ff W
  bel : Below V.heap.size V W
  lB : V.heap.size ≤ I
section
variable {I : Nat} {rd ep lf : Int} {n : Nat} {lv : Value} {y : Nat → Value} {m : Nat} {nn : Nat → Nat} {ff : Nat → Nat → Nat} {V W W' : World}
theorem PaS.on (h : PaS I rd ep lf n lv y m nn ff V W) (hb : Below W.heap.size W W') : PaS I rd ep lf n lv y m nn ff V W' :=
  ⟨by rw [hb.block _ (Array.getElem?_eq_some_iff.1 h.i).1]; exact h.i, ownL_below h.own hb, h.fam.on hb, h.bel.trans (hb.mono h.bel.size), h.lB⟩
theorem PaS.add (h : PaS I rd ep lf n lv y m nn ff V W) (hm : n ≤ m) (hb : Below W.heap.size W W') {r : Value} (hr : W'.ownsRow W.heap.size 5 1 r (nn m) (bytesL (nn m) (ff m))) : PaS I rd ep lf n lv (updX y m r) (m + 1) nn ff V W' := by
  have h' := h.on hb
  refine ⟨h'.i, ?_, h.fam.add hb h.bel.size hr, h'.bel, h.lB⟩
  rw [xsL_congr (y := y) fun t ht => updX_lt _ _ (by omega)]
  exact h'.own
theorem PaS.cg {gg : Nat → Nat → Nat} (h : PaS I rd ep lf n lv y m nn ff V W) (e : ∀ t, t < m → ∀ l, l < nn t → ff t l = gg t l) : PaS I rd ep lf n lv y m nn gg V W :=
  ⟨h.i, h.own, ⟨fun t ht => by have h2 := h.fam.rows t ht; rw [bytesL_congr (e t ht)] at h2; exact h2, h.fam.dis⟩, h.bel, h.lB⟩
/-- One byte of row t is set. -/
theorem PaS.set (h : PaS I rd ep lf n lv y m nn ff V W) {t k g cap z : Nat} (ht : t < m) (hx : y t = .slice (some ⟨g, 0, none⟩) (nn t) cap) :
    PaS I rd ep lf n lv y m nn (fun s => if s = t then (fun l => if l = k then z else ff t l) else ff s) V (W.setCell ⟨g, k, none⟩ (.int .u8 (z : Int))) := by
  have own := h.fam.rows t ht
  obtain ⟨cur, hg⟩ := own_type own (k := g) (by rw [hx]; rfl)
  have gB : V.heap.size ≤ g := (own.lt g (by rw [hx]; rfl)).1
  refine ⟨?_, ownL_staysT h.own hg, ⟨fun s hs => ?_, h.fam.dis⟩, h.bel.setCell (p := ⟨g, k, none⟩) gB _, h.lB⟩
  · rw [heap4o _ hg (fun e => by have q := h.i; rw [e, hg] at q; simp at q)]
    exact h.i
  · by_cases e : s = t
    · subst e
      simp only [if_true]
      rw [hx] at own ⊢
      exact own_set (m := k) z own
    · simp only [if_neg e]
      exact own_stays (k := k) (u := .int .u8 (z : Int)) (h.fam.rows s hs) hg (fun q => h.fam.dis t s ht hs (fun z => e z.symm) g (by rw [hx]; rfl) q)
/-- Row t has grown, and goes its own way: the row behind it takes its place. -/
theorem PaS.drop (h : PaS I rd ep lf n lv y (n + 3) nn ff V W) {u : Value} (hg : W.grownBy W' (y (n + 1)).ownBlock) (hN : nn (n + 2) = nn (n + 1)) (hf : ff (n + 2) = ff n) (hu : u = y (n + 2)) : PaS I rd ep lf n lv (fun t => if t = n + 1 then u else y t) (n + 2) nn (fun t => if t = n + 1 then ff n else ff t) V W' := by
  have pv := h.fam.rows (n + 1) (by omega)
  have keep : ∀ t, t < n + 3 → t ≠ n + 1 → W'.ownsRow V.heap.size 5 1 (y t) (nn t) (bytesL (nn t) (ff t)) := by
    intro t ht hne
    refine (h.fam.rows t ht).kept hg ?_
    cases e : (y t).ownBlock with
    | none => exact Or.inl rfl
    | some g => exact Or.inr (fun q => h.fam.dis t (n + 1) ht (by omega) hne g e q.symm)
  have tne : ∀ {c : Array Value} {t : TypeId} {b : Nat}, W.heap[b]? = some (.cells c t) → t ≠ 5 → W'.heap[b]? = some (.cells c t) := by
    intro c t b hb ht
    rw [hg.block b (Array.getElem?_eq_some_iff.1 hb).1 (own_ne pv hb ht)]
    exact hb
  refine ⟨tne h.i (by decide), ?_, ⟨fun t ht => ?_, fun s t hs ht hst => ?_⟩, h.bel.grown hg h.bel.size (fun k hk => (pv.lt k hk).1), h.lB⟩
  · rw [xsL_congr (y := y) fun t ht => if_neg (by omega)]
    refine ⟨h.own.1, ?_⟩
    rcases h.own.2 with h | ⟨g, cap, cur, e, hB, hgg, h2⟩
    · exact Or.inl h
    · exact Or.inr ⟨g, cap, cur, e, hB, tne hgg (by decide), h2⟩
  · by_cases e : t = n + 1
    · simp only [if_pos e]
      have := keep (n + 2) (by omega) (by omega)
      rw [hN, hf] at this
      rw [e, hu]
      exact this
    · simp only [if_neg e]
      exact keep t (by omega) e
  · by_cases e1 : s = n + 1
    · have e2 : t ≠ n + 1 := fun q => hst (e1.trans q.symm)
      simp only [if_pos e1, if_neg e2, hu]
      exact h.fam.dis _ _ (by omega) (by omega) (by omega)
    · by_cases e2 : t = n + 1
      · simp only [if_neg e1, if_pos e2, hu]
        exact h.fam.dis _ _ (by omega) (by omega) (by omega)
      · simp only [if_neg e1, if_neg e2]
        exact h.fam.dis _ _ (by omega) (by omega) hst
theorem PaS.cells (h : PaS I rd ep lf n lv y m nn ff V W) (hm : n ≤ m) (hb : ∀ i j, i < n → j < nn i → ff i j < 256) (hl : ∀ i, i < n → nn i ≤ 140737488351232) : Cells W lv n y nn ff :=
  CF.cells (B := V.heap.size) ⟨h.own, ⟨fun t ht => h.fam.rows t (by omega), fun s t hs ht => h.fam.dis s t (by omega) (by omega)⟩⟩ hb hl
end
end Go.Proofs.YtaoncjgllcndmaaDoor.Frm
