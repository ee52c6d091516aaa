import Derived.Test.YtaoncjgllcndmaaDoorD3x
import Derived.Test.YtaoncjgllcndmaaDoorD3g
import Derived.Deep.RegionWith
namespace Go.Proofs.YtaoncjgllcndmaaDoor.Frm
open Go.RowKit Gf8 Aes By8 Cel
/- FramePieces. -/

/-- A []uint16. -/
structure SliceW (w : World) (v : Value) (len : Nat) (f : Nat → Nat) : Prop where
  shape : ∃ a cap, v = .slice a len cap ∧ (0 < len → ∃ b off, a = some ⟨b, off, none⟩ ∧ b < w.heap.size ∧ ∀ j, j < len → w.cell? ⟨b, off + j, none⟩ = some (.int .u16 (f j)))
  lt : ∀ j, j < len → f j < 65536
theorem execU16 {o : Oper} {a : Act} {w : World} {x : Operand} {z : Nat} (ho : o.op = .convert 53 3 x) (hx : a.eval x = .int .u16 (z : Int)) (h : z < 65536) : (execOp a.eval o).run Tryd.prog w = .ok (.value (.int .i64 (z : Int))) w := by
  have e : IntKind.i64.wrap (z : Int) = z := wrap_i64_nat (by omega)
  unfold execOp
  simp only [ho, hx]
  simp [go_sem, e]
theorem SliceN.take {w : World} {a : Option Addr} {len cap : Nat} {p : Nat → Nat} (h : SliceN w (.slice a len cap) len p) {n : Nat} (hn : n ≤ len) : SliceN w (.slice a n cap) n p := by
  obtain ⟨⟨a', cap', e, e1, e2, e3⟩, hp⟩ := h
  obtain ⟨rfl, _, rfl⟩ : a = a' ∧ len = len ∧ cap = cap' := by
    injection e with x y z
    exact ⟨x, rfl, z⟩
  refine ⟨⟨a, cap, rfl, by omega, e2, fun h0 => ?_⟩, fun j hj => hp j (by omega)⟩
  obtain ⟨b, off, rfl, hb, hc⟩ := e3 (by omega)
  exact ⟨b, off, rfl, hb, fun j hj => hc j (by omega)⟩
theorem Took.k_le {q : Nat → Nat} {n k : Nat} {s : FSt} (h : Took q n k s) : k ≤ 256 := by
  by_cases h6 : s.f < 6
  · have := h.pos.zero h6
    omega
  · have w3 := h.pos.head 3 (by omega) (by omega)
    have l := h.pos.le
    have : rdN q 6 2 ≤ 256 := by
      apply Classical.byContradiction
      intro hh
      rw [show wrongN q 3 = if rdN q 6 2 ≤ 256 then 0 else 63 from rfl, if_neg hh] at w3
      cases w3
    unfold nCells at l
    omega
theorem header_took (F : Nat) (s : FSt) (q : Nat → Nat) (n k : Nat) (V : World) (h : FAt F s V) (tk : Took q n k s) (hb : ∀ j, j < n → q j < 256) : Calls Tryd.prog 24 #[.pointer (some ⟨F, 0, none⟩)] V fun e w' => e = .returned (.tuple #[.agg (hC (jRound q n) (jEpoch q n) (jLeft q n)), .bool (headOk q n)]) ∧ Below V.heap.size V w' := by
  have hh := header_any F s V h tk.pl_le.2
  obtain ⟨_, t2, _⟩ := tk.tells hb
  rw [← t2] at hh
  unfold jRound jEpoch jLeft
  by_cases h6 : 6 ≤ s.f
  · rw [decide_eq_true h6] at t2
    rw [if_pos h6, tk.rd (by omega), tk.ep h6, tk.lf (by omega)] at hh
    rw [if_pos t2, if_pos t2, if_pos t2]
    exact hh
  · rw [decide_eq_false h6] at t2
    rw [if_neg h6] at hh
    have n2 : ¬ headOk q n = true := by rw [t2]; simp
    rw [if_neg n2, if_neg n2, if_neg n2]
    exact hh
/-- What lies in FramePieces: two Feeds, the cells of the whole, the cells of the parts. -/
structure PiS (F1 F2 : Nat) (p : Nat → Nat) (s1 s2 : FSt) (c1 : Nat) (x1 : Nat → Value) (cv1 : Value) (c : Nat) (y : Nat → Value) (pv : Value) (V W : World) : Prop where
  f1 : FAt F1 s1 W
  f2 : FAt F2 s2 W
  wl : CG V.heap.size c1 x1 (fun i => cellB p i) cv1 W
  pt : CG V.heap.size c y (fun i => cellB p i) pv W
  dis : ∀ g, cv1.ownBlock = some g → pv.ownBlock ≠ some g
  bel : Below V.heap.size V W
  l1 : V.heap.size ≤ F1
  l2 : V.heap.size ≤ F2
  ne : F1 ≠ F2
section
variable {F1 F2 : Nat} {p : Nat → Nat} {s1 s2 : FSt} {c1 : Nat} {x1 : Nat → Value} {cv1 : Value} {c : Nat} {y : Nat → Value} {pv : Value} {V W : World}
theorem PiS.on {W' : World} (h : PiS F1 F2 p s1 s2 c1 x1 cv1 c y pv V W) (hb : Below W.heap.size W W') : PiS F1 F2 p s1 s2 c1 x1 cv1 c y pv V W' :=
  ⟨h.f1.on hb, h.f2.on hb, h.wl.on hb, h.pt.on hb, h.dis, h.bel.trans (hb.mono h.bel.size), h.l1, h.l2, h.ne⟩
theorem PiS.put {W' : World} {s2' : FSt} (h : PiS F1 F2 p s1 s2 c1 x1 cv1 c y pv V W) (ft : FTo F2 s2' W W') : PiS F1 F2 p s1 s2' c1 x1 cv1 c y pv V W' :=
  ⟨⟨by rw [ft.sv.block F1 h.f1.lt h.ne]; exact h.f1.row⟩, ft.at', h.wl.svT h.f2 ft, h.pt.svT h.f2 ft, h.dis, h.bel.trans (saved_below ft.sv h.l2 h.bel.size), h.l1, h.l2, h.ne⟩
theorem PiS.app {W' W5 : World} {s2' : FSt} {m : Nat} {x : Nat → Value} {u v' : Value} (h : PiS F1 F2 p s1 s2 c1 x1 cv1 c y pv V W) (ft : FTo F2 s2' W W') (cu : CG W.heap.size m x (fun i => cellB p (c + i)) u W') (own : W5.ownsRow V.heap.size 30 1 v' (c + m) (xsL (fun i => if i < c then y i else x (i - c)) 0 (c + m)))
    (gr : (v'.ownBlock = pv.ownBlock ∧ W'.grownBy W5 pv.ownBlock) ∨ (v'.ownBlock = some W'.heap.size ∧ W'.grownBy W5 none)) : PiS F1 F2 p s1 s2' c1 x1 cv1 (c + m) (fun i => if i < c then y i else x (i - c)) v' V W5 := by
  have h' := h.put ft
  have g := grown_row gr
  refine ⟨h'.f1.grown h'.pt.own g, h'.f2.grown h'.pt.own g, h'.wl.grown h'.pt.own g h.dis, CG.join h.pt h'.pt rfl h.bel.size cu own g, fun k hk => ?_, h'.bel.grown g h'.bel.size (fun k hk => (h'.pt.own.lt k hk).1), h.l1, h.l2, h.ne⟩
  rcases gr with ⟨e, _⟩ | ⟨e, _⟩
  · rw [e]; exact h.dis k hk
  · rw [e]
    have := (h'.wl.own.lt k hk).2
    intro q
    injection q with q
    omega
end
/-- The two headers, laid apart. -/
structure PiE (b1 b2 : Nat) (h : Array Value) (W : World) : Prop where
  h1 : W.heap[b1]? = some (.cells h 23)
  h2 : W.heap[b2]? = some (.cells h 23)
theorem PiE.on {b1 b2 : Nat} {h : Array Value} {W W' : World} (e : PiE b1 b2 h W) (hb : Below W.heap.size W W') : PiE b1 b2 h W' :=
  ⟨by rw [hb.block _ (Array.getElem?_eq_some_iff.1 e.h1).1]; exact e.h1, by rw [hb.block _ (Array.getElem?_eq_some_iff.1 e.h2).1]; exact e.h2⟩
theorem row_put {b F : Nat} {c : Array Value} {t : TypeId} {s s' : FSt} {W W' : World} (e : W.heap[b]? = some (.cells c t)) (fa : FAt F s W) (ft : FTo F s' W W') (ht : t ≠ 74) : W'.heap[b]? = some (.cells c t) := by
  have ne : b ≠ F := fun q => by
    rw [q, fa.row] at e
    have : 74 = t := by simpa using congrArg (fun x => match x with | some (Obj.cells _ t _) => t | _ => 0) e
    exact ht this.symm
  rw [ft.sv.block _ (Array.getElem?_eq_some_iff.1 e).1 ne]
  exact e
theorem PiE.put {b1 b2 F : Nat} {h : Array Value} {s s' : FSt} {W W' : World} (e : PiE b1 b2 h W) (fa : FAt F s W) (ft : FTo F s' W W') : PiE b1 b2 h W' :=
  ⟨row_put e.h1 fa ft (by decide), row_put e.h2 fa ft (by decide)⟩
theorem eqsH (a b c : Int) : ∀ w, (binOp .eql 23 (.agg (hC a b c)) (.agg (hC a b c))).run Tryd.prog w = .ok (.bool true) w := by
  intro w
  simp [go_sem, hC]
theorem neqH (a b c : Int) : ∀ w, (binOp .neq 23 (.agg (hC a b c)) (.agg (hC a b c))).run Tryd.prog w = .ok (.bool false) w := by
  intro w
  simp [go_sem, hC]
theorem CG.cells {B k : Nat} {x : Nat → Value} {p : Nat → Nat} {cv : Value} {W : World} (h : CG B k x (fun i => cellB p i) cv W) (hb : ∀ i j, i < k → j < 320 → cellB p i j < 256) (hk : k ≤ 1000) : Cells W cv k x (fun _ => 320) (cellB p) := CL.cells (B := B) ⟨h.own, h.fam⟩ hb hk
/-- The cells that are whole lie in the bytes. -/
theorem Took.cellB {q : Nat → Nat} {n k : Nat} {s : FSt} (h : Took q n k s) (hb : ∀ j, j < n → q j < 256) : ∀ i j, i < k → j < 320 → Frm.cellB q i j < 256 := by
  by_cases h6 : s.f < 6
  · have := h.pos.zero h6
    intro i j hi
    omega
  · have := h.pos.low (by omega)
    have := h.pl_le.1
    exact cellB_lt hb (by omega)
set_option maxRecDepth 200000 in
set_option maxHeartbeats 1000000 in
theorem pieces_any (raw : Value) (len : Nat) (p : Nat → Nat) (cuts : Value) (m : Nat) (f : Nat → Nat) (V : World) (g : Rules V) (hv : SliceN V raw len p) (hl : len ≤ 140737488351232) (hw : SliceW V cuts m f) (hm : m ≤ 140737488351232) :
    Calls Tryd.prog 7 #[raw, cuts] V fun e w' => e = .returned (.bool true) ∧ Below V.heap.size V w' := by
  obtain ⟨ra, rcap, rfl, rc1, rc2, rc3⟩ := id hv.shape
  obtain ⟨ua, ucap, rfl, hu⟩ := id hw.shape
  have HB : Hid (Rules V ∧ SliceN V (.slice ra len rcap) len p ∧ (∀ j, j < len → p j < 256) ∧ len ≤ 140737488351232 ∧ m ≤ 140737488351232 ∧ (∀ j, j < m → f j < 65536) ∧ 0 < V.heap.size) := ⟨g, hv, hv.bytes, hl, hm, hw.lt, g.sz⟩
  have HU : Hid (0 < m → ∃ b off, ua = some ⟨b, off, none⟩ ∧ b < V.heap.size ∧ ∀ j, j < m → V.cell? ⟨b, off + j, none⟩ = some (.int .u16 (f j))) := hu
  have ll : (len : Int) ≤ 140737488351232 := by omega
  have mm : (m : Int) ≤ 140737488351232 := by omega
  have zb := zeroB
  have zh := zeroH
  have eqn := neqH
  clear g hv hw hu hl hm rc1 rc2 rc3
  by_cases big : len > 1048576 ∨ m > 4096
  · by_cases b1 : len > 1048576
    · have i1 : (len : Int) > 1048576 := by omega
      clear big b1
      go_enter Tryd.func7, Tryd.ntmps7
      go_wp2_with (first
        | (go_at_call 19; have n1 := N1; refine (new_any w1).mono ?_; rintro e w2 ⟨F2, rfl, hF, fa, b2⟩; have N2 : Hid (w1.heap.size ≤ F2 ∧ FAt F2 newS w2 ∧ FAt F1 newS w2 ∧ Below V.heap.size V w2) := ⟨hF, fa, n1.out.2.1.on b2, n1.out.2.2.trans (b2.mono n1.out.2.2.size)⟩; clear hF fa b2 n1)
        | (go_at_call 19; refine (new_any V).mono ?_; rintro e w1 ⟨F1, rfl, hF, fa, b1⟩; have N1 : Hid (V.heap.size ≤ F1 ∧ FAt F1 newS w1 ∧ Below V.heap.size V w1) := ⟨hF, fa, b1⟩; clear hF fa b1)
        | (go_at_call 9; refine (awake_any w2 (HB.out.1.on N2.out.2.2.2 HB.out.2.2.2.2.2.2)).mono ?_; rintro e w3 ⟨rfl, b3⟩; have N3 : Hid (FAt F2 newS w3 ∧ FAt F1 newS w3 ∧ Below V.heap.size V w3) := ⟨N2.out.2.1.on b3, N2.out.2.2.1.on b3, N2.out.2.2.2.trans (b3.mono N2.out.2.2.2.size)⟩; clear b3))
      go_ret
      exact ⟨rfl, N3.out.2.2⟩
    · have i1 : ¬ (len : Int) > 1048576 := by omega
      have i2 : (m : Int) > 4096 := by omega
      clear big b1
      go_enter Tryd.func7, Tryd.ntmps7
      go_wp2_with (first
        | (go_at_call 19; have n1 := N1; refine (new_any w1).mono ?_; rintro e w2 ⟨F2, rfl, hF, fa, b2⟩; have N2 : Hid (w1.heap.size ≤ F2 ∧ FAt F2 newS w2 ∧ FAt F1 newS w2 ∧ Below V.heap.size V w2) := ⟨hF, fa, n1.out.2.1.on b2, n1.out.2.2.trans (b2.mono n1.out.2.2.size)⟩; clear hF fa b2 n1)
        | (go_at_call 19; refine (new_any V).mono ?_; rintro e w1 ⟨F1, rfl, hF, fa, b1⟩; have N1 : Hid (V.heap.size ≤ F1 ∧ FAt F1 newS w1 ∧ Below V.heap.size V w1) := ⟨hF, fa, b1⟩; clear hF fa b1)
        | (go_at_call 9; refine (awake_any w2 (HB.out.1.on N2.out.2.2.2 HB.out.2.2.2.2.2.2)).mono ?_; rintro e w3 ⟨rfl, b3⟩; have N3 : Hid (FAt F2 newS w3 ∧ FAt F1 newS w3 ∧ Below V.heap.size V w3) := ⟨N2.out.2.1.on b3, N2.out.2.2.1.on b3, N2.out.2.2.2.trans (b3.mono N2.out.2.2.2.size)⟩; clear b3))
      go_ret
      exact ⟨rfl, N3.out.2.2⟩
  · have i1 : ¬ (len : Int) > 1048576 := by omega
    have i2 : ¬ (m : Int) > 4096 := by omega
    have BG : Hid (len ≤ 1048576 ∧ m ≤ 4096) := ⟨by omega, by omega⟩
    clear big
    go_enter Tryd.func7, Tryd.ntmps7
    go_wp2_with (first
      | (go_at_call 19; have n1 := N1; refine (new_any w1).mono ?_; rintro e w2 ⟨F2, rfl, hF, fa, b2⟩; have N2 : Hid (w1.heap.size ≤ F2 ∧ FAt F2 newS w2 ∧ FAt F1 newS w2 ∧ Below V.heap.size V w2) := ⟨hF, fa, n1.out.2.1.on b2, n1.out.2.2.trans (b2.mono n1.out.2.2.size)⟩; clear hF fa b2 n1)
      | (go_at_call 19; refine (new_any V).mono ?_; rintro e w1 ⟨F1, rfl, hF, fa, b1⟩; have N1 : Hid (V.heap.size ≤ F1 ∧ FAt F1 newS w1 ∧ Below V.heap.size V w1) := ⟨hF, fa, b1⟩; clear hF fa b1)
      | (go_at_call 9; refine (awake_any w2 (HB.out.1.on N2.out.2.2.2 HB.out.2.2.2.2.2.2)).mono ?_; rintro e w3 ⟨rfl, b3⟩; have N3 : Hid (FAt F2 newS w3 ∧ FAt F1 newS w3 ∧ Below V.heap.size V w3) := ⟨N2.out.2.1.on b3, N2.out.2.2.1.on b3, N2.out.2.2.2.trans (b3.mono N2.out.2.2.2.size)⟩; clear b3)
      | (go_at_call 20; refine (put_any F1 newS p 0 len 0 _ w3 N3.out.2.1 (HB.out.1.on N3.out.2.2 HB.out.2.2.2.2.2.2) (by have := N1.out.1; have := HB.out.2.2.2.2.2.2; omega) (Took.begin p) (Nat.zero_le _) (sliceN_cg (HB.out.2.1.on N3.out.2.2) fun j _ => by rw [Nat.zero_add]) (off_of HB.out.2.1 N1.out.1) HB.out.2.2.1 HB.out.2.2.2.1).mono ?_; rintro e w4 ⟨cv, x1, s1, c1, rfl, cg, ft, tk⟩; obtain ⟨wa, wc, rfl⟩ := ownL_shape cg.own; have T1 : Hid (Took p len c1 s1) := (by show Took p len c1 s1; have := tk; rw [Nat.zero_add] at this; exact this); have P4 : Hid (PiS F1 F2 p s1 newS c1 x1 (.slice wa c1 wc) 0 (fun _ => undef) (.slice none 0 0) V w4) := ⟨ft.at', ⟨(by rw [ft.sv.block F2 N3.out.1.lt (by have := N2.out.1; have := N1.out.2.1.lt; omega)]; exact N3.out.1.row)⟩, ⟨(cg.base N3.out.2.2.size).own, ⟨fun t ht => (by have := (cg.base N3.out.2.2.size).fam.rows t ht; rw [Nat.zero_add] at this; exact this), cg.fam.dis⟩⟩, CG.none _ _ _ _, (fun g _ q => by cases q), N3.out.2.2.trans (saved_below ft.sv N1.out.1 N3.out.2.2.size), N1.out.1, (by have := N2.out.1; have := N1.out.2.2.size; omega), (by have := N2.out.1; have := N1.out.2.1.lt; omega)⟩; clear cg ft tk))
    go_loopw [9, 10, 60] (fun pv lv z W => ∃ (i t c : Nat) (y : Nat → Value) (s2 : FSt), i ≤ m ∧ z = .int .i64 (i : Int) ∧ t ≤ len ∧ SliceN V lv (len - t) (fun j => p (t + j)) ∧ Took p t c s2 ∧ PiS F1 F2 p s1 s2 c1 x1 (.slice wa c1 wc) c y pv V W) (fun _ _ z _ => m - (intOf z).toNat)
    case atStart => exact ⟨0, 0, 0, fun _ => undef, newS, Nat.zero_le _, rfl, Nat.zero_le _, sliceN_cg HB.out.2.1 fun j _ => by rw [Nat.zero_add], Took.begin p, P4.out⟩
    case round =>
      obtain ⟨i, t, c, y, s2, hi, rfl, ht, sl, tk, ps⟩ := hrel
      obtain ⟨r, hr⟩ : ∃ r, len - t = r := ⟨_, rfl⟩
      rw [hr] at sl
      have HR : Hid (len - t = r) := hr
      have rr : (r : Int) ≤ 140737488351232 := by omega
      obtain ⟨la, lcap, rfl, lc1, lc2, lc3⟩ := id sl.shape
      clear P4 lc3
      by_cases hlt : i < m
      · have j1 : (i : Int) < m := by omega
        obtain ⟨b, off, rfl, hb, hcell⟩ := HU.out (by omega)
        have k1 : wr.cell? ⟨b, off + i, none⟩ = some (.int .u16 (f i)) := by rw [cell_below ps.bel hb]; exact hcell i hlt
        have k2 : (f i : Int) < 65536 := by have := HB.out.2.2.2.2.2.1 i hlt; omega
        obtain ⟨n, hn⟩ : ∃ n, min (f i) r = n := ⟨_, rfl⟩
        obtain ⟨fi, hfi⟩ : ∃ fi, f i = fi := ⟨_, rfl⟩
        rw [hfi] at k1 k2 hn
        have k3 : min (fi : Int) (r : Int) = n := by omega
        have nle : n ≤ r := by omega
        have sh := slice_h la r lcap n (by omega)
        have sh' : ∀ W, (Instr.sliceAt 30 (.slice la r lcap) none (some (.int .i64 (n : Int))) none).run Tryd.prog W = .ok (sliced la 0 n lcap 1) W := sh
        have slw := slice_l la r lcap n nle
        have sub1 := sl.sub 0 n (Nat.zero_le _) nle
        have sub2 := sl.sub n r nle (Nat.le_refl _)
        obtain ⟨u1, hu1⟩ : ∃ u1, sliced la 0 n lcap 1 = u1 := ⟨_, rfl⟩
        obtain ⟨u2, hu2⟩ : ∃ u2, sliced la n r lcap 1 = u2 := ⟨_, rfl⟩
        rw [hu1] at sh' sub1
        rw [hu2] at slw sub2
        have HK : Hid (i < m ∧ n ≤ len - t ∧ t ≤ len ∧ SliceN V u1 (t + n - t) (fun j => p (t + j)) ∧ SliceN V u2 (len - (t + n)) (fun j => p (t + n + j)) ∧ Took p t c s2 ∧ PiS F1 F2 p s1 s2 c1 x1 (.slice wa c1 wc) c y _ V wr) := ⟨hlt, by rw [hr]; exact nle, ht, by rw [show t + n - t = n - 0 by omega]; exact sliceN_cg sub1 fun j _ => by rw [Nat.zero_add], by rw [Nat.sub_add_eq, hr]; exact sliceN_cg sub2 fun j _ => by rw [Nat.add_assoc], tk, ps⟩
        have n2 : (n : Int) ≤ r := by omega
        have HMIN : Hid (min fi r = n) := hn
        have SH : Hid (_) := sh'
        have SW : Hid (_) := slw
        have K2 : Hid (fi < 65536) := by show fi < 65536; omega
        clear sub1 sub2 sh hu1 hu2 hb hcell hi hlt ht sl tk ps nle hn lc1 lc2 hr hfi k2 k3 sh' slw
        go_wp2_with (first
          | (refine wpList_ex rfl (execU16 (z := fi) rfl rfl K2.out) ?_)
          | (refine wpList_ex rfl (execMinI (p := fi) (q := r) rfl rfl rfl) ?_; rw [HMIN.out])
          | (refine wpList_ex rfl (execSlH rfl rfl rfl (SH.out _)) ?_)
          | (refine wpList_ex rfl (execSlL rfl rfl rfl (SW.out _)) ?_)
          | (go_at_call 20; refine (put_any F2 s2 p t (t + n) c u1 wr HK.out.2.2.2.2.2.2.f2 (HB.out.1.on HK.out.2.2.2.2.2.2.bel HB.out.2.2.2.2.2.2) (by have := HK.out.2.2.2.2.2.2.l2; have := HB.out.2.2.2.2.2.2; omega) HK.out.2.2.2.2.2.1 (by omega) (HK.out.2.2.2.1.on HK.out.2.2.2.2.2.2.bel) (off_of HK.out.2.2.2.1 HK.out.2.2.2.2.2.2.l2) (fun j hj => HB.out.2.2.1 j (by have := HK.out.2.1; have := HK.out.2.2.1; omega)) (by have := HK.out.2.1; have := HK.out.2.2.1; have := HB.out.2.2.2.1; omega)).mono ?_; rintro e w5 ⟨lv, x5, s5, c5, rfl, cg5, ft5, tk5⟩; have P5 : Hid (CG wr.heap.size c5 x5 (fun i => cellB p (c + i)) lv w5 ∧ FTo F2 s5 wr w5 ∧ Took p (t + n) (c + c5) s5) := ⟨cg5, ft5, tk5⟩; clear cg5 ft5 tk5)
          | (refine atAppLL (.tmp 77) (.tmp 78) rfl ?_; go_must (have ps5 := HK.out.2.2.2.2.2.2.put P5.out.2.1; refine wpList_appLL (B := V.heap.size) (n := c) (m := c5) (x := y) (y := x5) rfl (.tmp 77) (.tmp 78) rfl rfl rfl ps5.pt.own P5.out.1.own (fun i hi => own_oneCell (P5.out.1.fam.rows i hi)) (by have := P5.out.2.2.k_le; omega) ps5.bel.size ?_; intro v' W6 own6 gr6; have P6 : Hid (PiS F1 F2 p s1 s5 c1 x1 (.slice wa c1 wc) (c + c5) _ v' V W6) := HK.out.2.2.2.2.2.2.app P5.out.2.1 P5.out.1 own6 gr6; clear own6 gr6 ps5)))
        go_roundw
        case rel => exact ⟨i + 1, t + n, c + c5, _, s5, HK.out.1, by go_num, by have := HK.out.2.1; have := HK.out.2.2.1; omega, HK.out.2.2.2.2.1, P5.out.2.2, P6.out⟩
        case measure => have := HK.out.1; simp [intOf]; omega
      · have j1 : ¬ (i : Int) < m := by omega
        have HK : Hid (SliceN V (.slice la r lcap) (len - t) (fun j => p (t + j)) ∧ Took p t c s2 ∧ PiS F1 F2 p s1 s2 c1 x1 (.slice wa c1 wc) c y _ V wr ∧ t ≤ len) := ⟨by rw [hr]; exact sl, tk, ps, ht⟩
        obtain ⟨J, hJ⟩ : ∃ J, jE p len = J := ⟨_, rfl⟩
        obtain ⟨ok, hok⟩ : ∃ ok, headOk p len = ok := ⟨_, rfl⟩
        have JE2 : J.2 ≤ 67 := by rw [← hJ]; exact jE_le _ _
        have eqs := eqsH
        clear hi hlt ht sl tk ps hr lc1 lc2
        by_cases f0 : J.2 = 0
        · have f1 : ((J.2 : Int) != 0) = false := by simp; omega
          have f2 : ok = true := by rw [← hok]; exact (ok_parts HB.out.2.2.1 (by rw [hJ]; exact f0)).1
          have oR : okR p len = true := by unfold okR; rw [hJ, f0]; rfl
          have RR : Hid (rRound p len = jRound p len ∧ rEpoch p len = jEpoch p len ∧ rLeft p len = jLeft p len ∧ rK p len = c1) := ⟨if_pos oR, if_pos oR, if_pos oR, by unfold rK; rw [if_pos oR]; exact (T1.out.tells HB.out.2.2.1).1⟩
          subst f2
          clear f0 oR
          go_wp2_with (first
            | (go_at_call_of 20 (Option.none (α := Addr)); have p15 := P15; refine (put_any F2 s5 p len len (c + c5) _ W15 p15.out.1.f2 (HB.out.1.on p15.out.1.bel HB.out.2.2.2.2.2.2) (by have := p15.out.1.l2; have := HB.out.2.2.2.2.2.2; omega) P5.out.2.2.1 (Nat.le_refl _) ⟨⟨none, 0, by rw [Nat.sub_self], by omega, by omega, fun h => by omega⟩, fun j hj => by omega⟩ (fun ad l c e => by cases e) HB.out.2.2.1 HB.out.2.2.2.1).mono ?_; rintro e w16 ⟨cv16, x16, s16, c16, rfl, cg16, ft16, tk16⟩; have t16 := tk16.tells HB.out.2.2.1; have t1 := T1.out.tells HB.out.2.2.1; have es : s16.ft = s1.ft := (by rw [← t16.2.2.2.2.1, t1.2.2.2.2.1]); have ec : c16 = 0 := (by have a := t16.1; have b := t1.1; have d := P5.out.2.2.2; omega); subst ec; rw [es]; obtain ⟨za, zc, rfl⟩ := ownL_shape cg16.own; have r16 := row_put p15.out.2.2.2 p15.out.1.f2 ft16 (by decide); obtain ⟨_, _, _, k16⟩ := bC_at _ _ _ _ r16; have P16 : Hid (PiS F1 F2 p s1 s16 c1 x1 (.slice wa c1 wc) c1 _ v' V w16 ∧ PiE w8.heap.size w10.heap.size (hC (jRound p len) (jEpoch p len) (jLeft p len)) w16 ∧ w16.heap[w14.heap.size]? = some (.cells (bC _ _ _ _) 26)) := ⟨p15.out.1.put ft16, p15.out.2.1.put p15.out.1.f2 ft16, r16⟩; have C16 : Hid (_ ∧ _) := ⟨ownsRow_svT p15.out.2.2.1.own ft16.sv p15.out.1.f2.row (by decide), (fun t ht => ownsRow_svT (p15.out.2.2.1.fam.rows t ht) ft16.sv p15.out.1.f2.row (by decide))⟩; clear cg16 ft16 tk16 t16 t1 es r16 p15)
            | (go_at_call_of 20 la; refine (put_any F2 s2 p t len c _ wr HK.out.2.2.1.f2 (HB.out.1.on HK.out.2.2.1.bel HB.out.2.2.2.2.2.2) (by have := HK.out.2.2.1.l2; have := HB.out.2.2.2.2.2.2; omega) HK.out.2.1 HK.out.2.2.2 (HK.out.1.on HK.out.2.2.1.bel) (off_of HK.out.1 HK.out.2.2.1.l2) HB.out.2.2.1 HB.out.2.2.2.1).mono ?_; rintro e w5 ⟨lv, x5, s5, c5, rfl, cg5, ft5, tk5⟩; have t5 := tk5.tells HB.out.2.2.1; have t1 := T1.out.tells HB.out.2.2.1; have es : s5.ft = s1.ft := (by rw [← t5.2.2.2.2.1, t1.2.2.2.2.1]); have ec : c + c5 = c1 := (by rw [← t5.1, t1.1]); rw [es]; have P5 : Hid (CG wr.heap.size c5 x5 (fun i => cellB p (c + i)) lv w5 ∧ FTo F2 s5 wr w5 ∧ Took p len (c + c5) s5 ∧ c + c5 = c1) := ⟨cg5, ft5, tk5, ec⟩; clear cg5 ft5 tk5 t5 t1 es ec)
            | (refine atAppLL (.tmp 90) (.tmp 91) rfl ?_; go_must (have ps5 := HK.out.2.2.1.put P5.out.2.1; refine wpList_appLL (B := V.heap.size) (n := c) (m := c5) (x := y) (y := x5) rfl (.tmp 90) (.tmp 91) rfl rfl rfl ps5.pt.own P5.out.1.own (fun i hi => own_oneCell (P5.out.1.fam.rows i hi)) (by have := P5.out.2.2.1.k_le; omega) ps5.bel.size ?_; intro v' W6 own6 gr6; have p6 := HK.out.2.2.1.app P5.out.2.1 P5.out.1 own6 gr6; rw [P5.out.2.2.2] at p6; have P6 : Hid (PiS F1 F2 p s1 s5 c1 x1 (.slice wa c1 wc) c1 _ v' V W6) := p6; clear own6 gr6 ps5 p6))
            | (go_at_call_of 22 ba; refine (sameCells_true c1 _ _ x14 x1 (fun _ => 320) (fun _ => 320) (cellB p) (cellB p) w16 (CL.cells (B := w13.heap.size) ⟨C16.out.1, ⟨C16.out.2, P15.out.2.2.1.fam.dis⟩⟩ (T1.out.cellB HB.out.2.2.1) (by have := T1.out.k_le; omega)) (P16.out.1.wl.cells (T1.out.cellB HB.out.2.2.1) (by have := T1.out.k_le; omega)) ⟨fun _ _ => rfl, fun _ _ _ _ => rfl⟩ (by have := T1.out.k_le; omega)).mono ?_; rintro e w17 ⟨rfl, b17⟩; have B17 : Hid (Below V.heap.size V w17) := P16.out.1.bel.trans (b17.mono P16.out.1.bel.size); clear b17)
            | (go_at_call_of 22 v'; refine (sameCells_true c1 _ _ _ _ (fun _ => 320) (fun _ => 320) (cellB p) (cellB p) W6 (P6.out.wl.cells (T1.out.cellB HB.out.2.2.1) (by have := T1.out.k_le; omega)) (P6.out.pt.cells (T1.out.cellB HB.out.2.2.1) (by have := T1.out.k_le; omega)) ⟨fun _ _ => rfl, fun _ _ _ _ => rfl⟩ (by have := T1.out.k_le; omega)).mono ?_; rintro e w7 ⟨rfl, b7⟩; have P7 : Hid (PiS F1 F2 p s1 s5 c1 x1 (.slice wa c1 wc) c1 _ v' V w7) := P6.out.on b7; clear b7)
            | (go_at_call_of 24 F2; refine (header_took F2 s5 p len (c + c5) W9 P9.out.f2 P5.out.2.2.1 HB.out.2.2.1).mono ?_; rw [hok]; rintro e w10 ⟨rfl, b10⟩; have P10 : Hid (PiS F1 F2 p s1 s5 c1 x1 (.slice wa c1 wc) c1 _ v' V w10 ∧ w10.heap[w8.heap.size]? = some (.cells (hC (jRound p len) (jEpoch p len) (jLeft p len)) 23)) := ⟨P9.out.on b10, (by rw [b10.block _ (Array.getElem?_eq_some_iff.1 R9.out).1]; exact R9.out)⟩; clear b10)
            | (go_at_call 24; refine (header_took F1 s1 p len c1 w7 P7.out.f1 T1.out HB.out.2.2.1).mono ?_; rw [hok]; rintro e w8 ⟨rfl, b8⟩; have P8 : Hid (PiS F1 F2 p s1 s5 c1 x1 (.slice wa c1 wc) c1 _ v' V w8) := P7.out.on b8; clear b8)
            | (refine atStore 23 (.tmp 18) (.tmp 105) rfl ?_; go_must (refine wpList_exS rfl (execStHd (r0 := 0) (e0 := 0) (l0 := 0) (rd := jRound p len) (ep := jEpoch p len) (lf := jLeft p len) rfl rfl rfl (heapNew w8 _)) ?_; obtain ⟨W9, hW9⟩ : ∃ W9, (w8.alloc (.cells (hC 0 0 0) 23)).setRow w8.heap.size (hC (jRound p len) (jEpoch p len) (jLeft p len)) = W9 := ⟨_, rfl⟩; have r9 : W9.heap[w8.heap.size]? = some (.cells (hC (jRound p len) (jEpoch p len) (jLeft p len)) 23) := (by rw [← hW9]; exact setRow_heap _ _ _ _ _ _ (heapNew w8 _)); have b9 : Below w8.heap.size w8 W9 := (by rw [← hW9]; exact below4 (belNew w8 _) (Nat.le_refl _) _); rw [hW9]; have R9 : Hid (_) := r9; have P9 : Hid (PiS F1 F2 p s1 s5 c1 x1 (.slice wa c1 wc) c1 _ v' V W9) := P8.out.on b9; clear r9 b9 hW9))
            | (refine atStore 23 (.tmp 20) (.tmp 110) rfl ?_; go_must (refine wpList_exS rfl (execStHd (r0 := 0) (e0 := 0) (l0 := 0) (rd := jRound p len) (ep := jEpoch p len) (lf := jLeft p len) rfl rfl rfl (heapNew w10 _)) ?_; obtain ⟨W11, hW11⟩ : ∃ W11, (w10.alloc (.cells (hC 0 0 0) 23)).setRow w10.heap.size (hC (jRound p len) (jEpoch p len) (jLeft p len)) = W11 := ⟨_, rfl⟩; have r11 : W11.heap[w10.heap.size]? = some (.cells (hC (jRound p len) (jEpoch p len) (jLeft p len)) 23) := (by rw [← hW11]; exact setRow_heap _ _ _ _ _ _ (heapNew w10 _)); have b11 : Below w10.heap.size w10 W11 := (by rw [← hW11]; exact below4 (belNew w10 _) (Nat.le_refl _) _); rw [hW11]; have P11 : Hid (PiS F1 F2 p s1 s5 c1 x1 (.slice wa c1 wc) c1 _ v' V W11 ∧ PiE w8.heap.size w10.heap.size (hC (jRound p len) (jEpoch p len) (jLeft p len)) W11) := ⟨P10.out.1.on b11, ⟨(by rw [b11.block _ (Array.getElem?_eq_some_iff.1 P10.out.2).1]; exact P10.out.2), r11⟩⟩; clear r11 b11 hW11))
            | (go_at_call_of 25 F2; refine (end_took F2 s5 p len (c + c5) w12 P12.out.1.f2 P5.out.2.2.1 HB.out.2.2.1 HB.out.2.2.2.1).mono ?_; rw [hJ]; rintro e w13 ⟨rfl, b13⟩; have P13 : Hid (PiS F1 F2 p s1 s5 c1 x1 (.slice wa c1 wc) c1 _ v' V w13 ∧ PiE w8.heap.size w10.heap.size (hC (jRound p len) (jEpoch p len) (jLeft p len)) w13) := ⟨P12.out.1.on b13, P12.out.2.on b13⟩; clear b13)
            | (go_at_call 25; refine (end_took F1 s1 p len c1 W11 P11.out.1.f1 T1.out HB.out.2.2.1 HB.out.2.2.2.1).mono ?_; rw [hJ]; rintro e w12 ⟨rfl, b12⟩; have P12 : Hid (PiS F1 F2 p s1 s5 c1 x1 (.slice wa c1 wc) c1 _ v' V w12 ∧ PiE w8.heap.size w10.heap.size (hC (jRound p len) (jEpoch p len) (jLeft p len)) w12) := ⟨P11.out.1.on b12, P11.out.2.on b12⟩; clear b12)
            | (refine atLoad 23 (.tmp 18) rfl ?_; refine wpList_ex rfl (execLoadMid (cs := (hC (jRound p len) (jEpoch p len) (jLeft p len)).toList) rfl rfl (range_h3 (by first | exact P16.out.2.1.h1 | exact P13.out.2.h1)) Tryd.underlying23 rfl (by kernel_rfl)) ?_)
            | (refine atLoad 23 (.tmp 20) rfl ?_; refine wpList_ex rfl (execLoadMid (cs := (hC (jRound p len) (jEpoch p len) (jLeft p len)).toList) rfl rfl (range_h3 P13.out.2.h2) Tryd.underlying23 rfl (by kernel_rfl)) ?_)
            | (go_at_call 17; refine (pread_any p len _ w13 (HB.out.1.on P13.out.1.bel HB.out.2.2.2.2.2.2) (HB.out.2.1.on P13.out.1.bel) HB.out.2.2.2.1).mono ?_; rw [hJ, RR.out.1, RR.out.2.1, RR.out.2.2.1, RR.out.2.2.2]; rintro e w14 ⟨cv14, x14, rfl, cl14, b14⟩; obtain ⟨ba, bc, rfl⟩ := ownL_shape cl14.own; have P14 : Hid (PiS F1 F2 p s1 s5 c1 x1 (.slice wa c1 wc) c1 _ v' V w14 ∧ PiE w8.heap.size w10.heap.size (hC (jRound p len) (jEpoch p len) (jLeft p len)) w14 ∧ CL w13.heap.size c1 x14 p (.slice ba c1 bc) w14) := ⟨P13.out.1.on b14, P13.out.2.on b14, cl14⟩; clear cl14 b14)
            | (refine atStore 26 (.tmp 26) (.tmp 143) rfl ?_; go_must (refine wpList_exS rfl (execStBt (rd := (jRound p len)) (ep := (jEpoch p len)) (lf := (jLeft p len)) (cv := .slice ba c1 bc) rfl rfl rfl (heapNew w14 _) rfl) ?_; obtain ⟨W15, hW15⟩ : ∃ W15, (w14.alloc (.cells (bC 0 0 0 (.slice none 0 0)) 26)).setRow w14.heap.size (bC (jRound p len) (jEpoch p len) (jLeft p len) (.slice ba c1 bc)) = W15 := ⟨_, rfl⟩; have r15 : W15.heap[w14.heap.size]? = some (.cells (bC (jRound p len) (jEpoch p len) (jLeft p len) (.slice ba c1 bc)) 26) := (by rw [← hW15]; exact setRow_heap _ _ _ _ _ _ (heapNew w14 _)); have b15 : Below w14.heap.size w14 W15 := (by rw [← hW15]; exact below4 (belNew w14 _) (Nat.le_refl _) _); rw [hW15]; have P15 : Hid (PiS F1 F2 p s1 s5 c1 x1 (.slice wa c1 wc) c1 _ v' V W15 ∧ PiE w8.heap.size w10.heap.size (hC (jRound p len) (jEpoch p len) (jLeft p len)) W15 ∧ CL w13.heap.size c1 x14 p (.slice ba c1 bc) W15 ∧ W15.heap[w14.heap.size]? = some (.cells (bC (jRound p len) (jEpoch p len) (jLeft p len) (.slice ba c1 bc)) 26)) := ⟨P14.out.1.on b15, P14.out.2.1.on b15, P14.out.2.2.on b15, r15⟩; clear r15 b15 hW15))
            | (refine atLoad 23 (.tmp 173) rfl ?_; refine wpList_ex rfl (execLoadMid (cs := (hC (jRound p len) (jEpoch p len) (jLeft p len)).toList) rfl rfl (range_b3 P16.out.2.2) Tryd.underlying23 rfl (by kernel_rfl)) ?_))
          go_ret
          exact ⟨rfl, B17.out⟩
        · have f1 : ((J.2 : Int) != 0) = true := by simp; omega
          obtain ⟨br1, br2, br3, br4, br5⟩ := bad_read (p := p) (len := len) (by rw [hJ]; exact f0)
          have RR : Hid (_ ∧ _ ∧ _ ∧ _) := ⟨br2, br3, br4, br5⟩
          clear f0 br1 br2 br3 br4 br5
          go_wp2_with (first
            | (go_at_call_of 20 (Option.none (α := Addr)); have p15 := P15; refine (put_any F2 s5 p len len (c + c5) _ W15 p15.out.1.f2 (HB.out.1.on p15.out.1.bel HB.out.2.2.2.2.2.2) (by have := p15.out.1.l2; have := HB.out.2.2.2.2.2.2; omega) P5.out.2.2.1 (Nat.le_refl _) ⟨⟨none, 0, by rw [Nat.sub_self], by omega, by omega, fun h => by omega⟩, fun j hj => by omega⟩ (fun ad l c e => by cases e) HB.out.2.2.1 HB.out.2.2.2.1).mono ?_; rintro e w16 ⟨cv16, x16, s16, c16, rfl, cg16, ft16, tk16⟩; have t16 := tk16.tells HB.out.2.2.1; have t1 := T1.out.tells HB.out.2.2.1; have es : s16.ft = s1.ft := (by rw [← t16.2.2.2.2.1, t1.2.2.2.2.1]); have ec : c16 = 0 := (by have a := t16.1; have b := t1.1; have d := P5.out.2.2.2; omega); subst ec; rw [es]; obtain ⟨za, zc, rfl⟩ := ownL_shape cg16.own; have r16 := row_put p15.out.2.2.2 p15.out.1.f2 ft16 (by decide); obtain ⟨_, _, _, k16⟩ := bC_at _ _ _ _ r16; have P16 : Hid (PiS F1 F2 p s1 s16 c1 x1 (.slice wa c1 wc) c1 _ v' V w16 ∧ PiE w8.heap.size w10.heap.size (hC (jRound p len) (jEpoch p len) (jLeft p len)) w16 ∧ w16.heap[w14.heap.size]? = some (.cells (bC _ _ _ _) 26)) := ⟨p15.out.1.put ft16, p15.out.2.1.put p15.out.1.f2 ft16, r16⟩; have C16 : Hid (_ ∧ _) := ⟨ownsRow_svT p15.out.2.2.1.own ft16.sv p15.out.1.f2.row (by decide), (fun t ht => ownsRow_svT (p15.out.2.2.1.fam.rows t ht) ft16.sv p15.out.1.f2.row (by decide))⟩; clear cg16 ft16 tk16 t16 t1 es r16 p15)
            | (go_at_call_of 20 la; refine (put_any F2 s2 p t len c _ wr HK.out.2.2.1.f2 (HB.out.1.on HK.out.2.2.1.bel HB.out.2.2.2.2.2.2) (by have := HK.out.2.2.1.l2; have := HB.out.2.2.2.2.2.2; omega) HK.out.2.1 HK.out.2.2.2 (HK.out.1.on HK.out.2.2.1.bel) (off_of HK.out.1 HK.out.2.2.1.l2) HB.out.2.2.1 HB.out.2.2.2.1).mono ?_; rintro e w5 ⟨lv, x5, s5, c5, rfl, cg5, ft5, tk5⟩; have t5 := tk5.tells HB.out.2.2.1; have t1 := T1.out.tells HB.out.2.2.1; have es : s5.ft = s1.ft := (by rw [← t5.2.2.2.2.1, t1.2.2.2.2.1]); have ec : c + c5 = c1 := (by rw [← t5.1, t1.1]); rw [es]; have P5 : Hid (CG wr.heap.size c5 x5 (fun i => cellB p (c + i)) lv w5 ∧ FTo F2 s5 wr w5 ∧ Took p len (c + c5) s5 ∧ c + c5 = c1) := ⟨cg5, ft5, tk5, ec⟩; clear cg5 ft5 tk5 t5 t1 es ec)
            | (refine atAppLL (.tmp 90) (.tmp 91) rfl ?_; go_must (have ps5 := HK.out.2.2.1.put P5.out.2.1; refine wpList_appLL (B := V.heap.size) (n := c) (m := c5) (x := y) (y := x5) rfl (.tmp 90) (.tmp 91) rfl rfl rfl ps5.pt.own P5.out.1.own (fun i hi => own_oneCell (P5.out.1.fam.rows i hi)) (by have := P5.out.2.2.1.k_le; omega) ps5.bel.size ?_; intro v' W6 own6 gr6; have p6 := HK.out.2.2.1.app P5.out.2.1 P5.out.1 own6 gr6; rw [P5.out.2.2.2] at p6; have P6 : Hid (PiS F1 F2 p s1 s5 c1 x1 (.slice wa c1 wc) c1 _ v' V W6) := p6; clear own6 gr6 ps5 p6))
            | (go_at_call_of 22 v'; refine (sameCells_true c1 _ _ _ _ (fun _ => 320) (fun _ => 320) (cellB p) (cellB p) W6 (P6.out.wl.cells (T1.out.cellB HB.out.2.2.1) (by have := T1.out.k_le; omega)) (P6.out.pt.cells (T1.out.cellB HB.out.2.2.1) (by have := T1.out.k_le; omega)) ⟨fun _ _ => rfl, fun _ _ _ _ => rfl⟩ (by have := T1.out.k_le; omega)).mono ?_; rintro e w7 ⟨rfl, b7⟩; have P7 : Hid (PiS F1 F2 p s1 s5 c1 x1 (.slice wa c1 wc) c1 _ v' V w7) := P6.out.on b7; clear b7)
            | (go_at_call_of 24 F2; refine (header_took F2 s5 p len (c + c5) W9 P9.out.f2 P5.out.2.2.1 HB.out.2.2.1).mono ?_; rw [hok]; rintro e w10 ⟨rfl, b10⟩; have P10 : Hid (PiS F1 F2 p s1 s5 c1 x1 (.slice wa c1 wc) c1 _ v' V w10 ∧ w10.heap[w8.heap.size]? = some (.cells (hC (jRound p len) (jEpoch p len) (jLeft p len)) 23)) := ⟨P9.out.on b10, (by rw [b10.block _ (Array.getElem?_eq_some_iff.1 R9.out).1]; exact R9.out)⟩; clear b10)
            | (go_at_call 24; refine (header_took F1 s1 p len c1 w7 P7.out.f1 T1.out HB.out.2.2.1).mono ?_; rw [hok]; rintro e w8 ⟨rfl, b8⟩; have P8 : Hid (PiS F1 F2 p s1 s5 c1 x1 (.slice wa c1 wc) c1 _ v' V w8) := P7.out.on b8; clear b8)
            | (refine atStore 23 (.tmp 18) (.tmp 105) rfl ?_; go_must (refine wpList_exS rfl (execStHd (r0 := 0) (e0 := 0) (l0 := 0) (rd := jRound p len) (ep := jEpoch p len) (lf := jLeft p len) rfl rfl rfl (heapNew w8 _)) ?_; obtain ⟨W9, hW9⟩ : ∃ W9, (w8.alloc (.cells (hC 0 0 0) 23)).setRow w8.heap.size (hC (jRound p len) (jEpoch p len) (jLeft p len)) = W9 := ⟨_, rfl⟩; have r9 : W9.heap[w8.heap.size]? = some (.cells (hC (jRound p len) (jEpoch p len) (jLeft p len)) 23) := (by rw [← hW9]; exact setRow_heap _ _ _ _ _ _ (heapNew w8 _)); have b9 : Below w8.heap.size w8 W9 := (by rw [← hW9]; exact below4 (belNew w8 _) (Nat.le_refl _) _); rw [hW9]; have R9 : Hid (_) := r9; have P9 : Hid (PiS F1 F2 p s1 s5 c1 x1 (.slice wa c1 wc) c1 _ v' V W9) := P8.out.on b9; clear r9 b9 hW9))
            | (refine atStore 23 (.tmp 20) (.tmp 110) rfl ?_; go_must (refine wpList_exS rfl (execStHd (r0 := 0) (e0 := 0) (l0 := 0) (rd := jRound p len) (ep := jEpoch p len) (lf := jLeft p len) rfl rfl rfl (heapNew w10 _)) ?_; obtain ⟨W11, hW11⟩ : ∃ W11, (w10.alloc (.cells (hC 0 0 0) 23)).setRow w10.heap.size (hC (jRound p len) (jEpoch p len) (jLeft p len)) = W11 := ⟨_, rfl⟩; have r11 : W11.heap[w10.heap.size]? = some (.cells (hC (jRound p len) (jEpoch p len) (jLeft p len)) 23) := (by rw [← hW11]; exact setRow_heap _ _ _ _ _ _ (heapNew w10 _)); have b11 : Below w10.heap.size w10 W11 := (by rw [← hW11]; exact below4 (belNew w10 _) (Nat.le_refl _) _); rw [hW11]; have P11 : Hid (PiS F1 F2 p s1 s5 c1 x1 (.slice wa c1 wc) c1 _ v' V W11 ∧ PiE w8.heap.size w10.heap.size (hC (jRound p len) (jEpoch p len) (jLeft p len)) W11) := ⟨P10.out.1.on b11, ⟨(by rw [b11.block _ (Array.getElem?_eq_some_iff.1 P10.out.2).1]; exact P10.out.2), r11⟩⟩; clear r11 b11 hW11))
            | (go_at_call_of 25 F2; refine (end_took F2 s5 p len (c + c5) w12 P12.out.1.f2 P5.out.2.2.1 HB.out.2.2.1 HB.out.2.2.2.1).mono ?_; rw [hJ]; rintro e w13 ⟨rfl, b13⟩; have P13 : Hid (PiS F1 F2 p s1 s5 c1 x1 (.slice wa c1 wc) c1 _ v' V w13 ∧ PiE w8.heap.size w10.heap.size (hC (jRound p len) (jEpoch p len) (jLeft p len)) w13) := ⟨P12.out.1.on b13, P12.out.2.on b13⟩; clear b13)
            | (go_at_call 25; refine (end_took F1 s1 p len c1 W11 P11.out.1.f1 T1.out HB.out.2.2.1 HB.out.2.2.2.1).mono ?_; rw [hJ]; rintro e w12 ⟨rfl, b12⟩; have P12 : Hid (PiS F1 F2 p s1 s5 c1 x1 (.slice wa c1 wc) c1 _ v' V w12 ∧ PiE w8.heap.size w10.heap.size (hC (jRound p len) (jEpoch p len) (jLeft p len)) w12) := ⟨P11.out.1.on b12, P11.out.2.on b12⟩; clear b12)
            | (refine atLoad 23 (.tmp 18) rfl ?_; refine wpList_ex rfl (execLoadMid (cs := (hC (jRound p len) (jEpoch p len) (jLeft p len)).toList) rfl rfl (range_h3 (by first | exact P16.out.2.1.h1 | exact P13.out.2.h1)) Tryd.underlying23 rfl (by kernel_rfl)) ?_)
            | (refine atLoad 23 (.tmp 20) rfl ?_; refine wpList_ex rfl (execLoadMid (cs := (hC (jRound p len) (jEpoch p len) (jLeft p len)).toList) rfl rfl (range_h3 P13.out.2.h2) Tryd.underlying23 rfl (by kernel_rfl)) ?_)
            | (go_at_call 17; refine (pread_any p len _ w13 (HB.out.1.on P13.out.1.bel HB.out.2.2.2.2.2.2) (HB.out.2.1.on P13.out.1.bel) HB.out.2.2.2.1).mono ?_; rw [hJ, RR.out.1, RR.out.2.1, RR.out.2.2.1, RR.out.2.2.2]; rintro e w14 ⟨cv14, x14, rfl, cl14, b14⟩; obtain ⟨ba, bc, rfl⟩ := ownL_shape cl14.own; have P14 : Hid (PiS F1 F2 p s1 s5 c1 x1 (.slice wa c1 wc) c1 _ v' V w14 ∧ PiE w8.heap.size w10.heap.size (hC (jRound p len) (jEpoch p len) (jLeft p len)) w14 ∧ CL w13.heap.size 0 x14 p (.slice ba 0 bc) w14) := ⟨P13.out.1.on b14, P13.out.2.on b14, cl14⟩; clear cl14 b14)
            | (refine atStore 26 (.tmp 26) (.tmp 143) rfl ?_; go_must (refine wpList_exS rfl (execStBt (rd := 0) (ep := 0) (lf := 0) (cv := .slice ba 0 bc) rfl rfl rfl (heapNew w14 _) rfl) ?_; obtain ⟨W15, hW15⟩ : ∃ W15, (w14.alloc (.cells (bC 0 0 0 (.slice none 0 0)) 26)).setRow w14.heap.size (bC 0 0 0 (.slice ba 0 bc)) = W15 := ⟨_, rfl⟩; have r15 : W15.heap[w14.heap.size]? = some (.cells (bC 0 0 0 (.slice ba 0 bc)) 26) := (by rw [← hW15]; exact setRow_heap _ _ _ _ _ _ (heapNew w14 _)); have b15 : Below w14.heap.size w14 W15 := (by rw [← hW15]; exact below4 (belNew w14 _) (Nat.le_refl _) _); rw [hW15]; have P15 : Hid (PiS F1 F2 p s1 s5 c1 x1 (.slice wa c1 wc) c1 _ v' V W15 ∧ PiE w8.heap.size w10.heap.size (hC (jRound p len) (jEpoch p len) (jLeft p len)) W15 ∧ CL w13.heap.size 0 x14 p (.slice ba 0 bc) W15 ∧ W15.heap[w14.heap.size]? = some (.cells (bC 0 0 0 (.slice ba 0 bc)) 26)) := ⟨P14.out.1.on b15, P14.out.2.1.on b15, P14.out.2.2.on b15, r15⟩; clear r15 b15 hW15)))
          go_ret
          exact ⟨rfl, P16.out.1.bel⟩
end Go.Proofs.YtaoncjgllcndmaaDoor.Frm
