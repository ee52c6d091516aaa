import Derived.Test.YtcffmmeafnapiaaDoorB8i
import Derived.Test.YtcffmmeafnapiaaDoorB7v
import Derived.Test.YtcffmmeafnapiaaDoorB7m
namespace Go.Proofs.YtcffmmeafnapiaaDoor.Rou
open Go.RowKit Gf8 Aes By8 Cel Oni
/- RouteKeeps: the parts put together. -/

theorem wkN_8 {h len : Nat} {key : Nat → Nat → Nat} {lk : Nat → Nat} {c : Nat → Nat} : wkN h (wkE h key lk len c) ≤ 8 := by
  unfold wkN
  split
  · rename_i e
    unfold wkE at e
    split at e
    · omega
    · omega
  · omega
theorem wkC_256 {h len : Nat} {key : Nat → Nat → Nat} {lk : Nat → Nat} {c : Nat → Nat} (hc : ∀ j, j < len → c j < 256) : ∀ k, k < wkN h (wkE h key lk len c) → ∀ j, j < 320 → wkC h key c (k + 1) j < 256 := fun k hk j hj => by
  obtain ⟨E, hE⟩ : ∃ E, wkE h key lk len c = E := ⟨_, rfl⟩
  obtain ⟨N, hN⟩ : ∃ N, wkN h E = N := ⟨_, rfl⟩
  rw [hE, hN] at hk
  have e0 : E = 0 := by
    by_cases e : E = 0
    · exact e
    · rw [wkN, if_neg e] at hN; omega
  rw [← hE] at e0
  unfold wkE at e0
  split at e0
  · omega
  · have : N ≤ h := by rw [← hN]; unfold wkN; split <;> omega
    exact wkC_lt hc (k + 1) (wkG_0 e0 (by omega)) j hj
theorem rwN_320 {h hn n : Nat} {lk : Nat → Nat} : rwN h hn lk n ≤ 320 := by unfold rwN; split <;> omega
theorem rkN_32 {l : Nat} {e : Int} : rkN l e ≤ 32 := by unfold rkN; split <;> omega
/-- The first key in its room. -/
theorem RB.key0 {c : RX} {V1 W : World} {x : Nat → Value} {u5 u6 : Value} (h : RB c V1 W c.h x u5 u6) (hb : ∀ i, i < c.h → ∀ j, j < c.lk i → c.key i j < 256) :
    ∃ k0 l0 m0, (∀ X, Below W.heap.size W X → SliceN X k0 l0 m0) ∧ (0 < c.h → ∃ ug uc, u5 = .slice (some ⟨ug, 0, none⟩) c.h uc ∧ ∀ X, Below W.heap.size W X → X.cell? ⟨ug, 0 + 0, none⟩ = some k0) := by
  by_cases h0 : 0 < c.h
  · refine ⟨cutV (x 0) (c.lk 0), c.lk 0, c.key 0, fun X hX => ((h.on hX).cells hb).cell 0 h0, fun _ => ?_⟩
    rcases h.keys.2 with ⟨_, e0⟩ | ⟨g, cap, cur, e, _, hg, h1, h2, h3, h4⟩
    · omega
    · refine ⟨g, cap, e, fun X hX => ?_⟩
      rw [cell_below hX (Array.getElem?_eq_some_iff.1 hg).1, cell_of_row _ _ _ _ _ _ hg, Nat.zero_add, ← Array.getElem?_toList]
      have := lL_get (fun t => cutV (x t) (c.lk t)) c.h 0 h0
      rw [← h4, List.getElem?_take, if_pos (by omega)] at this
      exact this
  · exact ⟨.slice none 0 0, 0, fun _ => 0, fun X _ => ⟨⟨none, 0, rfl, Nat.le_refl _, by omega, fun q => by omega⟩, fun j hj => by omega⟩, fun q => absurd q h0⟩
set_option maxRecDepth 100000 in
set_option maxHeartbeats 4000000 in
theorem keeps_from18 (c : RX) (V V1 : World) (F : RF c V V1) (a : Act) (W : World) (x : Nat → Value) (u5 u6 : Value) (A : RA c a) (B : RB c V1 W c.h x u5 u6) (t5 : a.eval (.tmp 5) = u5) (t6 : a.eval (.tmp 6) = u6) : (fromR 18 (Tryd.f7.body.getD .skip)).wp Tryd.prog (bodyPost Tryd.prog Tryd.f7 fun e w' => e = .returned (.bool true) ∧ Below V.heap.size V w') a W := by
  refine keeps18 c V V1 F ?_ a W x u5 u6 A B t5 t6
  clear A B t5 t6 a W x u5 u6
  intro a W x u5 u6 nv pg pk A H t5 t6 t10 t11
  have bel1 : ∀ X, Below W.heap.size W X → Below V1.heap.size V1 X := fun X hX => H.B.bel.trans (hX.mono H.B.bel.size)
  have gl : ∀ X, Below W.heap.size W X → Glob X := fun X hX => F.glob.below (F.belW (bel1 X hX)) F.glob.sz
  have kb : ∀ i, i < c.h → ∀ j, j < c.lk i → c.key i j < 256 := fun i hi j hj => (F.cells.cell i hi).bytes j hj
  have hsz := F.sz
  have hcw := rwF_lt (h := c.h) (hn := c.hn) (lk := c.lk) (key := c.key) (q := c.q) (n := c.n) (p := c.p) F.nons.by_ F.pay.sl.bytes
  have hMA := rwN_320 (h := c.h) (hn := c.hn) (n := c.n) (lk := c.lk)
  have hpk := H.pk_
  obtain ⟨k0, l0, m0, S0, K0⟩ := H.B.key0 kb
  refine keeps20 c V V1 F W x u5 u6 nv pg pk H (rwF c.h c.key c.q c.n c.p) (rwE c.h c.hn c.lk c.n) (rwN c.h c.hn c.lk c.n) (wkE c.h c.key c.lk (rwN c.h c.hn c.lk c.n) (rwF c.h c.key c.q c.n c.p)) (wkN c.h (wkE c.h c.key c.lk (rwN c.h c.hn c.lk c.n) (rwF c.h c.key c.q c.n c.p))) (wkR c.h c.key (rwF c.h c.key c.q c.n c.p)) (fun k => wkC c.h c.key (rwF c.h c.key c.q c.n c.p) (k + 1)) hMA hcw wkN_8 (wkC_256 hcw) (fun X hX => ?_) (fun X v hX hv => ?_) ?_ a A t5 t6 t10 t11
  · exact rwrap8_any u5 nv (.slice (some ⟨pg, 0, none⟩) c.n pk) c.h c.hn c.n (fun t => cutV (x t) (c.lk t)) c.lk c.key c.q c.p X (gl X hX) ((H.B.cells kb).on hX) (H.non.on hX) ⟨sliceN_cg (takeN (H.pay.on hX) (by omega)) fun j hj => if_pos hj, fun l c e => by cases e⟩ (by omega) (by omega) (by omega)
  · exact pwalk_any u5 v c.h (rwN c.h c.hn c.lk c.n) (fun t => cutV (x t) (c.lk t)) c.lk c.key (rwF c.h c.key c.q c.n c.p) X (gl X hX) ((H.B.cells kb).on hX) hv (by omega) (by omega)
  clear A t5 t6 t10 t11 a
  intro a W' aa ba la ma ac bc lc mc cl cm b1 b2 b3 b4 A L t5 t6 t10 t11 t12 t14 t17 t19
  refine keeps29 c V V1 F W x u5 u6 nv pg pk H (rwF c.h c.key c.q c.n c.p) (rwN c.h c.hn c.lk c.n) (wkN c.h (wkE c.h c.key c.lk (rwN c.h c.hn c.lk c.n) (rwF c.h c.key c.q c.n c.p))) (rkE l0 c.ep) (rkN l0 c.ep) (wkR c.h c.key (rwF c.h c.key c.q c.n c.p)) (fun k => wkC c.h c.key (rwF c.h c.key c.q c.n c.p) (k + 1)) (rk m0 c.ep.toNat) k0 wkN_8 K0 (fun X hX => pkey_any m0 l0 c.ep k0 X (gl X hX) (S0 X hX)) aa ba la ma ac bc lc mc cl cm b1 b2 b3 b4 ?_ a W' A L t5 t6 t10 t11 t12 t14 t17 t19
  clear A L t5 t6 t10 t11 t12 t14 t17 t19 a W'
  intro a W2 Wl u zs A L BW OU hz t6 t10 t11 t12 t21
  refine keeps39 c V W u6 nv pg pk (rwF c.h c.key c.q c.n c.p) (rwN c.h c.hn c.lk c.n) (wkN c.h (wkE c.h c.key c.lk (rwN c.h c.hn c.lk c.n) (rwF c.h c.key c.q c.n c.p))) (rkN l0 c.ep) (wkR c.h c.key (rwF c.h c.key c.q c.n c.p)) (fun k => wkC c.h c.key (rwF c.h c.key c.q c.n c.p) (k + 1)) (rk m0 c.ep.toNat) wkN_8 hMA rkN_32 hcw aa ba la ma ac bc lc mc cl cm b1 b2 b3 b4 ?_ a W2 Wl u zs A L BW OU hz t6 t10 t11 t12 t21
  clear A L BW OU hz t6 t10 t11 t12 t21 a W2 Wl u zs
  intro a W3 m X nn ff u A L t6 t10 t11 t21 t27
  obtain ⟨ug, uc, eu⟩ : ∃ ug uc, u = .slice (some ⟨ug, 0, none⟩) m uc := by
    rcases L.row.2 with ⟨_, e0⟩ | ⟨g, cap, cur, e, _⟩
    · have := L.m20; omega
    · exact ⟨g, cap, e⟩
  subst eu
  refine keeps40 c V W u6 nv pg pk (rwF c.h c.key c.q c.n c.p) (rwN c.h c.hn c.lk c.n) m ug uc X nn ff (X m) ?_ a W3 A L t6 t10 t11 t21 t27
  clear A L t6 t10 t11 t21 t27 a W3
  intro a W3 A L t6 t10 t11 t21 t27
  refine keeps47 c V W u6 nv pg pk (rwF c.h c.key c.q c.n c.p) (rwN c.h c.hn c.lk c.n) m ug uc X nn (mG ff m 0) (X m) (fun t ht l => by unfold mG; rw [if_pos (by omega)]) ?_ a W3 A L t6 t10 t11 t21 t27
  clear A L t6 t10 t11 t21 t27 a W3
  intro a W3 A L t6 t10 t11 t27
  have SF : SliceN W3 (X m) (rwN c.h c.hn c.lk c.n) (rwF c.h c.key c.q c.n c.p) := by
    have o := L.fam.rows m (by omega)
    rw [L.fst.1, bytesL_congr L.fst.2] at o
    exact own_slice o hcw
  refine keeps63 c V V1 F W3 x u5 u6 nv (X m) pg pk (H.on L.bel) (rwF c.h c.key c.q c.n c.p) (rwE c.h c.hn c.lk c.n) (rwN c.h c.hn c.lk c.n) hcw SF (fun Y hY => ?_) a A t6 t10 t11 t27
  have hY' := F.belW (bel1 Y (L.bel.trans (hY.mono L.bel.size)))
  exact rwrap8_any c.kv c.nv c.pv c.h c.hn c.n c.xv c.lk c.key c.q c.p Y (F.glob.below hY' F.glob.sz) (F.cells.on hY') (F.nons.on hY') (F.pay.on hY') (by omega) (by omega) (by omega)
end Go.Proofs.YtcffmmeafnapiaaDoor.Rou

namespace Go.Proofs.YtcffmmeafnapiaaDoor.Rou
open Go.RowKit Gf8 Aes By8 Cel Oni
/- RouteKeeps. -/

set_option maxRecDepth 400000 in
set_option maxHeartbeats 4000000 in
theorem keeps8_any (kv nv pv : Value) (h hn n : Nat) (xv : Nat → Value) (lk : Nat → Nat) (key q : Nat → Nat → Nat) (p : Nat → Nat) (ep : Int) (V : World) (hG : Glob V) (hc : Cells V kv h xv lk key) (hq : Nons V nv hn q) (hp : SliceZ V pv n p) (hb1 : h ≤ 140737488351232) (hb2 : hn * 16 ≤ 140737488351232) (hb3 : n ≤ 140737488351232) (hnn : ∀ l cc, nv = .slice none l cc → cc = 0) :
    Calls Tryd.prog 7 #[.agg (hC kv nv pv), .int .i64 ep] V fun e w' => e = .returned (.bool true) ∧ Below V.heap.size V w' := by
  obtain ⟨V1, hV1⟩ : ∃ V1, V.alloc (.cells (hC kv nv pv) 33) = V1 := ⟨_, rfl⟩
  have r1 := heapNew V (.cells (hC kv nv pv) 33)
  have b1 := belNew V (.cells (hC kv nv pv) 33)
  have s1 : V1.heap.size = V.heap.size + 1 := by rw [← hV1]; simp
  rw [hV1] at r1 b1
  have H : Hid (V1.heap[V.heap.size]? = some (.cells (hC kv nv pv) 33) ∧ Below V.heap.size V V1 ∧ V1.heap.size = V.heap.size + 1) := ⟨r1, b1, s1⟩
  have A := awake8_any V1 (hG.below b1 hG.sz)
  obtain ⟨ka, kc, rfl, _, _, hs⟩ := id hc.shape
  obtain ⟨na, nc, rfl, _⟩ := id hq.shape
  obtain ⟨pa, pc, rfl⟩ := id hp.shape
  by_cases h16 : 16 < h
  · have i1 : (h : Int) > 16 := by omega
    clear hG hc hq hp hb1 hb2 hb3 hnn r1 b1 s1 h16 hs
    go_enter Tryd.func7, Tryd.ntmps7
    go_wp2_with (first
      | (go_at_call 8; refine A.mono ?_; rintro e w1 ⟨rfl, hb1⟩; have B1 : Hid (w1.heap[V.heap.size]? = some (.cells (hC (.slice ka h kc) (.slice na hn nc) (.slice pa n pc)) 33) ∧ Below V.heap.size V w1) := ⟨(by rw [hb1.block _ (by have := H.out.2.2; omega)]; exact H.out.1), H.out.2.1.trans (hb1.mono H.out.2.1.size)⟩; obtain ⟨c0, c1, c2⟩ := hC_at B1.out.1; clear hb1))
    go_ret
    exact ⟨rfl, B1.out.2⟩
  · have i1 : ¬ (h : Int) > 16 := by omega
    by_cases h400 : 400 < n
    · have i2 : (n : Int) > 400 := by omega
      clear hG hc hq hp hb1 hb2 hb3 hnn r1 b1 s1 h16 h400 hs
      go_enter Tryd.func7, Tryd.ntmps7
      go_wp2_with (first
        | (go_at_call 8; refine A.mono ?_; rintro e w1 ⟨rfl, hb1⟩; have B1 : Hid (w1.heap[V.heap.size]? = some (.cells (hC (.slice ka h kc) (.slice na hn nc) (.slice pa n pc)) 33) ∧ Below V.heap.size V w1) := ⟨(by rw [hb1.block _ (by have := H.out.2.2; omega)]; exact H.out.1), H.out.2.1.trans (hb1.mono H.out.2.1.size)⟩; obtain ⟨c0, c1, c2⟩ := hC_at B1.out.1; clear hb1))
      go_ret
      exact ⟨rfl, B1.out.2⟩
    · have i2 : ¬ (n : Int) > 400 := by omega
      obtain ⟨kb, ko, hka⟩ : ∃ kb ko, 0 < h → ka = some ⟨kb, ko, none⟩ ∧ kb < V.heap.size ∧ ∀ i, i < h → V.cell? ⟨kb, ko + i, none⟩ = some (xv i) := by
        by_cases h0 : 0 < h
        · obtain ⟨b, o, e, hl, hh⟩ := hs h0
          exact ⟨b, o, fun _ => ⟨e, hl, hh⟩⟩
        · exact ⟨0, 0, fun q => absurd q h0⟩
      have F : Hid (RF (⟨V.heap.size, h, hn, n, kc, nc, pc, kb, ko, 0, 0, ka, na, pa, xv, lk, key, q, p, ep⟩ : RX) V V1) := ⟨⟨by show h ≤ 16; omega, by show n ≤ 400; omega, hb2⟩, b1, hG, r1, hc, hq, hp, hnn, hka⟩
      clear hG hc hq hp hb1 hb2 hb3 hnn r1 b1 s1 h16 h400 hs hka
      go_enter Tryd.func7, Tryd.ntmps7
      go_wp2_with (first
        | (go_at_call 8; refine A.mono ?_; rintro e w1 ⟨rfl, hb1⟩; have B1 : Hid (Below V1.heap.size V1 w1) := hb1; have JB : w1.heap[V.heap.size]? = some (.cells (hC (.slice ka h kc) (.slice na hn nc) (.slice pa n pc)) 33) := F.out.jobW hb1; obtain ⟨c0, c1, c2⟩ := hC_at JB; clear hb1 JB))
      rename_i K hK
      exact keeps7 (⟨V.heap.size, h, hn, n, kc, nc, pc, kb, ko, 0, 0, ka, na, pa, xv, lk, key, q, p, ep⟩ : RX) V V1 F.out K (fun a W x u5 u6 A B t5 t6 => hK a W (keeps_from18 _ V V1 F.out a W x u5 u6 A B t5 t6)) _ ⟨rfl, rfl, rfl, rfl⟩ rfl rfl rfl w1 B1.out
end Go.Proofs.YtcffmmeafnapiaaDoor.Rou
