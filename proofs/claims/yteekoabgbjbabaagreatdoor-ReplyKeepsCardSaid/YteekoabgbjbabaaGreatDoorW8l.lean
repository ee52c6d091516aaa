import Derived.Test.YteekoabgbjbabaaGreatDoorV9l
import Derived.Test.YteekoabgbjbabaaGreatDoorV8f
import Derived.Test.YteekoabgbjbabaaGreatDoorW9c
import Derived.Test.YteekoabgbjbabaaGreatDoorW8b
import Derived.Test.YteekoabgbjbabaaGreatDoorF9b
namespace Go.Proofs.YteekoabgbjbabaaGreatDoor.Rpl
open Go.RowKit Gf8 Aes By8 Cel Cf Tap Drw Dro Oni Rou
/- ReplyKeeps: the law's apart, of any number of lists. Written by tools/mkW8l.py. -/

theorem own_lo {W : World} {B n k : Nat} {v : Value} {xs : List Value} (h : W.ownsRow B 5 1 v n xs) (e : v.ownBlock = some k) : B ≤ k := by
  rcases h.2 with ⟨rfl, _⟩ | ⟨g, cap, cur, rfl, h1, _⟩
  · cases e
  · cases e
    exact h1
/-- A row of lists. -/
structure Ro (W : World) (g m : Nat) (y : Nat → Value) : Prop where
  row : ∃ c, W.heap[g]? = some (.cells c 24) ∧ c.size = m ∧ ∀ t, t < m → c[t]? = some (y t)
section
variable {U V W X : World} {B g k j m n i : Nat} {y x gv mo : Nat → Value} {nn dd : Nat → Nat} {ff : Nat → Nat → Nat} {gl gm : Nat} {z v' : Value} {d : Array Value}
theorem Ro.lt (h : Ro W g m y) : g < W.heap.size := by
  obtain ⟨c, q, _⟩ := h.row
  exact (Array.getElem?_eq_some_iff.1 q).1
theorem Ro.on (h : Ro W g m y) (b : Below W.heap.size W X) : Ro X g m y := by
  obtain ⟨c, q, r⟩ := h.row
  exact ⟨c, by rw [b.block _ h.lt]; exact q, r⟩
theorem Ro.byte (h : Ro W g m y) (hc : W.heap[k]? = some (.cells d 5)) : Ro (W.setCell ⟨k, j, none⟩ z) g m y := by
  obtain ⟨c, q, r⟩ := h.row
  refine ⟨c, ?_, r⟩
  rw [Below.heap_setCell _ _ _ _ (fun e => by
    have e' : g = k := e
    subst e'
    rw [q] at hc
    injection hc with hc
    injection hc with _ h5
    exact absurd h5 (by decide))]
  exact q
theorem Ro.put (h : Ro W g m y) (i : Nat) : Ro (W.setCell ⟨g, i, none⟩ z) g m (updX y i z) := by
  obtain ⟨c, q, hs, r⟩ := h.row
  refine ⟨c.setIfInBounds i z, heap4 _ q, by rw [Array.size_setIfInBounds]; exact hs, fun t ht => ?_⟩
  rw [Array.getElem?_setIfInBounds]
  unfold updX
  by_cases e : i = t
  · subst e
    rw [if_pos rfl, if_pos rfl, if_pos (by omega)]
  · rw [if_neg e, if_neg (fun q => e q.symm)]
    exact r t ht
theorem Ro.other (h : Ro W g m y) (hne : g ≠ k) : Ro (W.setCell ⟨k, j, none⟩ z) g m y := by
  obtain ⟨c, q, r⟩ := h.row
  refine ⟨c, ?_, r⟩
  rw [Below.heap_setCell _ _ _ _ (fun e => hne e)]
  exact q
theorem Ro.grown (h : Ro W g m y) {r : Option Nat} (hg : W.grownBy X r) (hr : some g ≠ r) : Ro X g m y := by
  obtain ⟨c, q, r⟩ := h.row
  exact ⟨c, by rw [hg.block g h.lt hr]; exact q, r⟩
theorem Ro.at (h : Ro W g m y) {i : Nat} (hi : i < m) : W.cell? ⟨g, 0 + i, none⟩ = some (y i) ∧ W.frozen? ⟨g, 0 + i, none⟩ = false := by
  obtain ⟨c, q, _, r⟩ := h.row
  exact ⟨by rw [Nat.zero_add, cell_of_row _ _ _ _ _ _ q]; exact r i hi, frozen4 q⟩
theorem Ro.cg (h : Ro W g m y) {y' : Nat → Value} (e : ∀ t, t < m → y t = y' t) : Ro W g m y' := by
  obtain ⟨c, q, s, r⟩ := h.row
  exact ⟨c, q, s, fun t ht => by rw [← e t ht]; exact r t ht⟩
theorem Ro.ls {cl : Nat} {ln : Nat → Nat} {f : Nat → Nat → Nat} (h : Ro W g m y) (hs : ∀ i, i < m → W.ownsRow B 5 1 (y i) (ln i) (bytesL (ln i) (f i))) (hb : ∀ i, i < m → ∀ j, j < ln i → f i j < 256) (hl : ∀ i, i < m → ln i ≤ 140737488351232) (hc : m ≤ cl ∧ cl < 9223372036854775808) : Ls W (.slice (some ⟨g, 0, none⟩) m cl) m y ln f :=
  ⟨⟨_, cl, rfl, hc.1, hc.2, fun _ => ⟨g, 0, rfl, h.lt, fun _ hi => (h.at hi).1⟩⟩, fun i hi => own_slice (hs i hi) (hb i hi), fun i hi => own_nilI (hs i hi), hl⟩
def updB (ff : Nat → Nat → Nat) (i j z : Nat) : Nat → Nat → Nat := fun t => if t = i then (fun l => if l = j then z else ff i l) else ff t
/-- While the lists are marked. -/
structure A7 (U V W : World) (m : Nat) (x : Nat → Value) (nn : Nat → Nat) (ff : Nat → Nat → Nat) (gl : Nat) : Prop where
  bel : Below U.heap.size U W
  fam : Fam U.heap.size m x nn ff W
  li : Ro W gl m x
  sv : Saved (Gx m x) V W
  by_ : ∀ t, t < m → ∀ l, l < nn t → ff t l < 256
theorem A7.on (h : A7 U V W m x nn ff gl) (b : Below W.heap.size W X) : A7 U V X m x nn ff gl := ⟨h.bel.trans (b.mono h.bel.size), h.fam.on b, h.li.on b, h.sv.below b h.sv.size, h.by_⟩
theorem A7.ls {cl : Nat} (h : A7 U V W m x nn ff gl) (hnn : ∀ t, t < m → nn t ≤ 1000000) (hc : m ≤ cl ∧ cl < 9223372036854775808) : Ls W (.slice (some ⟨gl, 0, none⟩) m cl) m x nn ff := h.li.ls h.fam.rows h.by_ (fun i hi => by have := hnn i hi; omega) hc
theorem A7.at (h : A7 U V W m x nn ff gl) (hi : i < m) (hj : j < nn i) : ∃ g cap c, x i = .slice (some ⟨g, 0, none⟩) (nn i) cap ∧ adB (x i) = g ∧ adO (x i) + j = j ∧ U.heap.size ≤ g ∧ W.heap[g]? = some (.cells c 5) ∧ W.cell? ⟨g, j, none⟩ = some (.int .u8 ((ff i j : Nat) : Int)) := by
  obtain ⟨g, cap, ex, hB, _, hcl⟩ := Cel.own_cells (h.fam.rows i hi) (by omega)
  obtain ⟨cu, hcu⟩ := own_type (h.fam.rows i hi) (k := g) (by rw [ex]; rfl)
  exact ⟨g, cap, cu, ex, by rw [ex]; rfl, by rw [ex]; exact Nat.zero_add j, hB, hcu, hcl j hj⟩
theorem A7.set (h : A7 U V W m x nn ff gl) (hi : i < m) (hj : j < nn i) {z : Nat} (hz : z < 256) : A7 U V (W.setCell ⟨adB (x i), adO (x i) + j, none⟩ (.int .u8 (z : Int))) m x nn (updB ff i j z) gl := by
  obtain ⟨g, cap, c, ex, e1, e2, hB, hc, _⟩ := h.at hi hj
  rw [e1, e2]
  refine ⟨h.bel.setCell hB _, fam_set8 h.fam hi ex z, h.li.byte hc, h.sv.cell _ (Or.inr ⟨i, hi, by rw [ex]; rfl⟩), fun t ht l hl => ?_⟩
  unfold updB
  by_cases e : t = i
  · subst e
    rw [if_pos rfl]
    show (if l = j then z else ff t l) < 256
    split
    · exact hz
    · exact h.by_ t ht l hl
  · rw [if_neg e]
    exact h.by_ t ht l hl
theorem A7.cell (h : A7 U V W m x nn ff gl) (hi : i < m) (hj : j < nn i) : W.cell? ⟨adB (x i), adO (x i) + j, none⟩ = some (.int .u8 ((ff i j : Nat) : Int)) ∧ W.frozen? ⟨adB (x i), adO (x i) + j, none⟩ = false := by
  obtain ⟨g, cap, c, ex, e1, e2, hB, hc, q⟩ := h.at hi hj
  rw [e1, e2]
  exact ⟨q, frozen4 hc⟩
theorem Ro.byteS (h : A7 U V W m x nn ff gl) (hr : Ro W g n y) (hi : i < m) (hj : j < nn i) : Ro (W.setCell ⟨adB (x i), adO (x i) + j, none⟩ z) g n y := by
  obtain ⟨g, cap, c, ex, e1, e2, hB, hc, q⟩ := h.at hi hj
  rw [e1, e2]
  exact hr.byte hc
theorem fam_off (h : Fam B m x nn ff W) (hg : Ro W g n y) : Fam B m x nn ff (W.setCell ⟨g, j, none⟩ z) := by
  obtain ⟨c, q, _⟩ := hg.row
  exact ⟨fun t ht => own_stays (h.rows t ht) q (fun e => own_ne (h.rows t ht) q (by decide) e.symm), h.dis⟩
/-- A list is laid among the grown ones. -/
theorem A7.put (h : A7 U V W m x nn ff gl) (hg : Ro W gm n y) (hne : gl ≠ gm) (hU : U.heap.size ≤ gm) (hV : V.heap.size ≤ gm) : A7 U V (W.setCell ⟨gm, j, none⟩ z) m x nn ff gl :=
  ⟨h.bel.setCell hU _, fam_off h.fam hg, h.li.other hne, h.sv.cell _ (Or.inl hV), h.by_⟩
/-- While they grow. -/
structure S7 (U V W : World) (m : Nat) (x : Nat → Value) (nn : Nat → Nat) (gv : Nat → Value) (dd : Nat → Nat) (gl gm : Nat) (mo : Nat → Value) : Prop where
  bel : Below U.heap.size U W
  ap : ApN U.heap.size m nn x (fun t _ => t % 256) (fun t => (100 + t) % 256) gv dd W
  li : Ro W gl m x
  gr : Ro W gm m mo
  sv : Saved (Gx m x) V W
  pl : ∀ t, t < m → ∀ k, (gv t).ownBlock = some k → V.heap.size ≤ k ∨ Gx m x k
  ne : gl ≠ gm
  hU : U.heap.size ≤ gm
  hV : V.heap.size ≤ gm
theorem S7.on (h : S7 U V W m x nn gv dd gl gm mo) (b : Below W.heap.size W X) : S7 U V X m x nn gv dd gl gm mo := ⟨h.bel.trans (b.mono h.bel.size), h.ap.on b, h.li.on b, h.gr.on b, h.sv.below b h.sv.size, h.pl, h.ne, h.hU, h.hV⟩
theorem S7.begin (h : A7 U V W m x nn ff gl) (hg : Ro W gm m mo) (hne : gl ≠ gm) (hU : U.heap.size ≤ gm) (hV : V.heap.size ≤ gm) (hm : ∀ t, t < m → ∀ l, l < nn t → ff t l = t % 256) : S7 U V W m x nn x nn gl gm mo :=
  ⟨h.bel, ApN.begin (fam_cg8 h.fam hm), h.li, hg, h.sv, fun t ht _ hk => Or.inr ⟨t, ht, hk⟩, hne, hU, hV⟩
theorem ro_ne {v : Value} {xs : List Value} (h : Ro W g n y) (ho : W.ownsRow B 5 1 v k xs) : some g ≠ v.ownBlock := by
  obtain ⟨c, q, _⟩ := h.row
  exact own_ne ho q (by decide)
theorem S7.put (h : S7 U V W m x nn gv dd gl gm mo) (i : Nat) : S7 U V (W.setCell ⟨gm, i, none⟩ z) m x nn gv dd gl gm (updX mo i z) := by
  obtain ⟨c, q, _⟩ := h.gr.row
  exact ⟨h.bel.setCell h.hU _, h.ap.cell q, h.li.other h.ne, h.gr.put i, h.sv.cell _ (Or.inl h.hV), h.pl, h.ne, h.hU, h.hV⟩
theorem S7.put0 (h : S7 U V W m x nn gv dd gl gm mo) (i : Nat) : S7 U V (W.setCell ⟨gm, 0 + i, none⟩ z) m x nn gv dd gl gm (updX mo i z) := by
  rw [Nat.zero_add]
  exact h.put i
def dd1 (dd : Nat → Nat) (i : Nat) : Nat → Nat := fun t => if t = i then dd i + 1 else dd t
theorem S7.grow (h : S7 U V W m x nn gv dd gl gm mo) (hi : i < m)
    (hv : X.ownsRow U.heap.size 5 1 v' (dd i + 1) (bytesL (dd i + 1) (gM (fun _ => i % 256) (nn i) ((100 + i) % 256)))) (hp : (v'.ownBlock = (gv i).ownBlock ∧ W.grownBy X (gv i).ownBlock ∧ capV v' = capV (gv i)) ∨ (v'.ownBlock = some W.heap.size ∧ W.grownBy X none)) :
    S7 U V X m x nn (updX gv i v') (dd1 dd i) gl gm mo := by
  have hgi := h.ap.grown i hi
  have gr : ∃ r, W.grownBy X r ∧ (∀ k, r = some k → U.heap.size ≤ k) ∧ (∀ k, r = some k → V.heap.size ≤ k ∨ Gx m x k) ∧ (∀ {g n : Nat} {y : Nat → Value}, Ro W g n y → some g ≠ r) := by
    rcases hp with ⟨_, hg, _⟩ | ⟨_, hg⟩
    · exact ⟨_, hg, (fun k hk => own_lo hgi hk), h.pl i hi, fun hr => ro_ne hr hgi⟩
    · exact ⟨_, hg, (fun k e => by cases e), (fun k e => by cases e), fun _ e => by cases e⟩
  obtain ⟨r, hg, g1, g2, g3⟩ := gr
  refine ⟨h.bel.grown hg h.bel.size g1, h.ap.grow hi hv hp, h.li.grown hg (g3 h.li), h.gr.grown hg (g3 h.gr), h.sv.grown hg g2, fun t ht b hb => ?_, h.ne, h.hU, h.hV⟩
  by_cases e : t = i
  · subst e
    rw [updX_at] at hb
    rcases hp with ⟨e, _⟩ | ⟨e, _⟩
    · exact h.pl t ht b (by rw [← e]; exact hb)
    · rw [e] at hb
      have := Option.some.inj hb
      have := h.sv.size
      exact Or.inl (by omega)
  · unfold updX at hb
    rw [if_neg e] at hb
    exact h.pl t ht b hb
theorem gM_b {f : Nat → Nat} {n z l : Nat} (hf : ∀ j, f j < 256) (hz : z < 256) : gM f n z l < 256 := by
  unfold gM
  split
  · exact hf _
  · exact hz
theorem S7.lsx {cl : Nat} (h : S7 U V W m x nn gv dd gl gm mo) (hnn : ∀ t, t < m → nn t ≤ 1000000) (hc : m ≤ cl ∧ cl < 9223372036854775808) : Ls W (.slice (some ⟨gl, 0, none⟩) m cl) m x nn (fun t _ => t % 256) := h.li.ls h.ap.fam.rows (fun t _ _ _ => Nat.mod_lt _ (by decide)) (fun i hi => by have := hnn i hi; omega) hc
theorem S7.lsg (h : S7 U V W m x nn gv dd gl gm mo) (hz : ∀ t, t < m → mo t = gv t) (hd : ∀ t, t < m → dd t ≤ 140737488351232) (hm : m ≤ 1000) : Ls W (.slice (some ⟨gm, 0, none⟩) m m) m gv dd (fun t => gM (fun _ => t % 256) (nn t) ((100 + t) % 256)) := (h.gr.cg hz).ls h.ap.grown (fun t _ _ _ => gM_b (fun _ => Nat.mod_lt _ (by decide)) (Nat.mod_lt _ (by decide))) hd ⟨Nat.le_refl _, by omega⟩
theorem dd_on {k : Nat} (hd : ∀ t, t < m → dd t = nn t + if t < i then k + 1 else k) : ∀ t, t < m → dd1 dd i t = nn t + if t < i + 1 then k + 1 else k := fun t ht => by
  unfold dd1
  by_cases e : t = i
  · subst e
    rw [if_pos rfl, hd t ht, if_neg (Nat.lt_irrefl t), if_pos (Nat.lt_succ_self t)]
    omega
  · rw [if_neg e, hd t ht]
    by_cases q : t < i
    · rw [if_pos q, if_pos (by omega)]
    · rw [if_neg q, if_neg (by omega)]
theorem mark_next {f2 : Nat → Nat → Nat} (h : ∀ s, s < i → ∀ l, l < nn s → f2 s l = s % 256) (hi : ∀ l, l < nn i → f2 i l = i % 256) : ∀ s, s < i + 1 → ∀ l, l < nn s → f2 s l = s % 256 := fun s hs => by
  by_cases q : s = i
  · subst q
    exact hi
  · exact h s (by omega)
theorem mark_o {f2 : Nat → Nat → Nat} {z : Nat} (h : ∀ s, s < i → ∀ l, l < nn s → f2 s l = s % 256) : ∀ s, s < i → ∀ l, l < nn s → updB f2 i j z s l = s % 256 := fun s hs => by
  unfold updB
  rw [if_neg (by omega)]
  exact h s hs
theorem mark_i {f2 : Nat → Nat → Nat} (h : ∀ l, l < j → f2 i l = i % 256) : ∀ l, l < j + 1 → updB f2 i j (i % 256) i l = i % 256 := fun l hl => by
  unfold updB
  rw [if_pos rfl]
  show (if l = j then i % 256 else f2 i l) = i % 256
  split
  · rfl
  · exact h l (by omega)
theorem updX_same {u : Value} (h : ∀ t, t < m → mo t = gv t) : ∀ t, t < m → updX mo i u t = updX gv i u t := fun t ht => by
  unfold updX
  split
  · rfl
  · exact h t ht
theorem nx_z {i : Nat} {z : Nat → Value} (h : ∀ t, t < i → z t = x t) : ∀ t, t < i + 1 → updX z i (x i) t = x t := fun t ht => by
  unfold updX
  split
  · rename_i e; rw [e]
  · exact h t (by omega)
end
section
variable {ops : Array Oper} {Q : Exit → Act → World → Prop} {K : Act → World → Prop} {q : Nat} {o : Oper} {a : Act} {s u : Operand} {U V W : World} {g m i : Nat} {x gv mo : Nat → Value} {nn dd : Nat → Nat} {gl gm : Nat}
theorem stepA7 (hos : ops[q]? = some o) (hgd : Region.wanted o (yielded ops a.tmps) = true) (ho : o.op = .call { callee := .builtin .append, args := #[s, u], argTypes := #[24, 24] }) (hs : a.eval s = gv i) (hx : a.eval u = .slice (some ⟨g, 0, none⟩) 1 1) (h : S7 U V W m x nn gv dd gl gm mo) (hg : W.heap[g]? = some (.cells #[.int .u8 (((100 + i) % 256 : Nat) : Int)] 5)) (hi : i < m) (hb : dd i + 1 ≤ 200000000000000)
    (hK : ∀ v' W', S7 U V W' m x nn (updX gv i v') (dd1 dd i) gl gm mo → K (a.put o.dst v') W') : wpOp Tryz.prog ops Q q K a W := by
  obtain ⟨v', W', run, own', hp⟩ := execApp8 (n := dd i) (m := 1) (p := gM (fun _ => i % 256) (nn i) ((100 + i) % 256)) ho hs hx (h.ap.grown i hi) (fun l hl => by
    obtain rfl : l = 0 := by omega
    rw [cell_of_row _ _ _ _ _ _ hg]
    unfold gM
    rw [if_neg (by have := h.ap.le i hi; omega)]
    rfl) hb h.bel.size
  exact stepV hos hgd run (hK v' W' (h.grow hi own' hp))
theorem execNe7 {w : World} {p r : Nat} (ho : o.op = .binOp .neq 5 s u 5) (hx : a.eval s = .int .u8 (p : Int)) (hy : a.eval u = .int .u8 (r : Int)) (e : p = r) : (execOp a.eval o).run Tryz.prog w = .ok (.value (.bool false)) w := by
  subst e
  unfold execOp
  simp only [ho, hx, hy]
  simp [go_sem]
end
theorem shp7 {W : World} {B n : Nat} {v : Value} {xs : List Value} (h : W.ownsRow B 5 1 v n xs) : ∃ g n c, v = .slice g n c := by
  obtain ⟨a, c, e⟩ := own_shapeJ h
  exact ⟨a, n, c, e⟩
theorem shp8 {W : World} {B n i : Nat} {v : Value} {y : Nat → Value} {xs : List Value} (h : W.ownsRow B 5 1 (updX y i v i) n xs) : ∃ g n c, v = .slice g n c := shp7 (by rw [updX_at] at h; exact h)
theorem ro_new (X : World) (m : Nat) : Ro (X.alloc (.cells (madeCells #[.slice none 0 0] m) 24)) X.heap.size m (fun _ => .slice none 0 0) :=
  ⟨_, heapNew X _, by simp [madeCells], fun t ht => by simp [madeCells, ht, Nat.mod_one]⟩
theorem execBs7 {o : Oper} {a : Act} {w : World} {x : Operand} {z : Nat} (ho : o.op = .buildSlice 24 1 #[(0, x)]) (hx : a.eval x = .int .u8 (z : Int)) : (execOp a.eval o).run Tryz.prog w = .ok (.value (.slice (some ⟨w.heap.size, 0, none⟩) 1 1)) (w.alloc (.cells #[.int .u8 (z : Int)] 5)) := by
  unfold execOp
  simp only [ho, List.map_toArray, List.map_cons, List.map_nil, hx]
  simp [go_sem]
set_option maxRecDepth 100000 in
set_option maxHeartbeats 4000000 in
/-- apart, from region 17: all is looked at. -/
theorem apart27c (U V : World) (m gl cl : Nat) (x : Nat → Value) (nn : Nat → Nat) (hm : m ≤ 1000) (hcl : m ≤ cl ∧ cl < 9223372036854775808) (hnn : ∀ t, t < m → nn t ≤ 1000000) (S : World) (y : Nat → Value) (dd : Nat → Nat) (gm : Nat) (hdd : ∀ t, t < m → dd t ≤ nn t + 20) (BB : Below U.heap.size U S) (FA : (S7 U V S m x nn y dd gl gm y))
    (a : Act) (A : a.tmps.size = 111 ∧ a.defers = []) (t0 : a.eval (.tmp 0) = .slice (some ⟨gl, 0, none⟩) m cl) (t3 : a.eval (.tmp 3) = .slice (some ⟨gm, 0, none⟩) m m) :
    (Tap.findR 17 (Tryz.f11.body.getD .skip)).wp Tryz.prog (bodyPost Tryz.prog Tryz.f11 fun e w' => e = .returned (.bool true) ∧ Saved (Gx m x) V w' ∧ Below U.heap.size U w') a S := by
  have hd9 : ∀ t, t < m → dd t ≤ 140737488351232 := fun t ht => (by have := hdd t ht; have := hnn t ht; omega)
  refine wp_seq ?_
  refine wp_seq ?_
  refine wi_ A (h2_ t0 t3) (rf_ [(8, .int .i64 ((0 : Nat) : Int))] (h2_ t0 t3) ?_)
  rintro a A ⟨t8, -⟩ ⟨t0, t3, -⟩
  refine wp_block ?_
  refine wp_loop (fun a W => ∃ (i : Nat), i ≤ m ∧ (a.tmps.size = 111 ∧ a.defers = []) ∧ a.eval (.tmp 0) = .slice (some ⟨gl, 0, none⟩) m cl ∧ a.eval (.tmp 3) = .slice (some ⟨gm, 0, none⟩) m m ∧ a.eval (.tmp 8) = .int .i64 ((i : Nat) : Int) ∧ Below U.heap.size U W ∧ (S7 U V W m x nn y dd gl gm y)) (fun a _ => m - (intOf (a.eval (.tmp 8))).toNat) ⟨0, Nat.zero_le _, A, t0, t3, t8, BB, FA⟩ ?_
  clear A t0 t3 t8 BB FA a
  rintro a XL18 ⟨i, hi, A, t0, t3, t8, BB, FA⟩
  have esi := t8
  refine wp_seq ?_
  refine wp_seq ?_
  refine wi_ A (h3_ t0 t3 t8) (rv_ 2 (.int .i64 ((m : Nat) : Int)) (fun a ee => execLenLL rfl (ee _) ((FA.lsg (fun _ _ => rfl) hd9 hm)).shp) (rv_ 3 (.bool (decide (i < m))) (fun a ee => execLtW (p := i) (q := m) rfl (ee _) (ee _)) (rf_ [(69, .bool (decide (i < m)))] (h3_ t0 t3 t8) ?_)))
  rintro a A ⟨t69, -⟩ ⟨t0, t3, t8, -⟩
  by_cases lti : i < m
  · rw [decide_eq_true lti] at t69
    refine wp_cond_true t69 ?_
    refine wp_skip ?_
    clear t69
    refine wp_seq ?_
    refine wp_block ?_
    have hni := hnn i lti
    have hdi := hdd i lti
    refine wp_seq ?_
    refine wi_ A (h3_ t0 t3 t8) (rf_ [(9, .int .i64 ((0 : Nat) : Int))] (h3_ t0 t3 t8) ?_)
    rintro a A ⟨t9, -⟩ ⟨t0, t3, t8, -⟩
    refine wp_block ?_
    refine wp_loop (fun a W => ∃ (j : Nat), j ≤ dd i ∧ (a.tmps.size = 111 ∧ a.defers = []) ∧ a.eval (.tmp 0) = .slice (some ⟨gl, 0, none⟩) m cl ∧ a.eval (.tmp 3) = .slice (some ⟨gm, 0, none⟩) m m ∧ a.eval (.tmp 8) = .int .i64 ((i : Nat) : Int) ∧ a.eval (.tmp 9) = .int .i64 ((j : Nat) : Int) ∧ Below U.heap.size U W ∧ (S7 U V W m x nn y dd gl gm y)) (fun a _ => dd i - (intOf (a.eval (.tmp 9))).toNat) ⟨0, Nat.zero_le _, A, t0, t3, t8, t9, BB, FA⟩ ?_
    clear A t0 t3 t8 t9 BB FA a
    rintro a XL21 ⟨j, hj, A, t0, t3, t8, t9, BB, FA⟩
    have esj := t9
    refine wp_seq ?_
    refine wp_seq ?_
    refine wi_ A (h4_ t0 t3 t8 t9) (rv_ 3 (.pointer (some ⟨adB (.slice (some ⟨gm, 0, none⟩) m m), adO (.slice (some ⟨gm, 0, none⟩) m m) + i, none⟩)) (fun a ee => execIdxLs (k := i) ((FA.lsg (fun _ _ => rfl) hd9 hm)) rfl (ee _) (ee _) lti) (rv_ 4 (y i) (fun a ee => execLdLs (k := i) ((FA.lsg (fun _ _ => rfl) hd9 hm)) rfl (ee _) lti) (rv_ 5 (.int .i64 ((dd i : Nat) : Int)) (fun a ee => execLenV (len := dd i) rfl (ee _) (shp ((((FA.lsg (fun _ _ => rfl) hd9 hm)).cell i lti)))) (rv_ 6 (.bool (decide (j < dd i))) (fun a ee => execLtW (p := j) (q := dd i) rfl (ee _) (ee _)) (rf_ [(78, .bool (decide (j < dd i)))] (h4_ t0 t3 t8 t9) ?_)))))
    rintro a A ⟨t78, -⟩ ⟨t0, t3, t8, t9, -⟩
    by_cases ltj : j < dd i
    · rw [decide_eq_true ltj] at t78
      refine wp_cond_true t78 ?_
      refine wp_skip ?_
      clear t78
      refine wp_seq ?_
      refine wp_block ?_
      refine wp_seq ?_
      refine wi_ A (h4_ t0 t3 t8 t9) (rv_ 1 (.int .u8 (((i) % 256 : Nat) : Int)) (fun a ee => Cf.execU8 (n := i) rfl (ee _)) (rf_ [(10, .int .u8 (((i) % 256 : Nat) : Int))] (h4_ t0 t3 t8 t9) ?_))
      rintro a A ⟨t10, -⟩ ⟨t0, t3, t8, t9, -⟩
      by_cases hjn : j < nn i
      · refine wp_seq ?_
        refine wp_seq ?_
        refine wi_ A (h5_ t0 t3 t8 t9 t10) (rv_ 3 (.pointer (some ⟨adB (.slice (some ⟨gl, 0, none⟩) m cl), adO (.slice (some ⟨gl, 0, none⟩) m cl) + i, none⟩)) (fun a ee => execIdxLs (k := i) ((FA.lsx hnn hcl)) rfl (ee _) (ee _) lti) (rv_ 4 (x i) (fun a ee => execLdLs (k := i) ((FA.lsx hnn hcl)) rfl (ee _) lti) (rv_ 5 (.int .i64 ((nn i : Nat) : Int)) (fun a ee => execLenV (len := nn i) rfl (ee _) (shp ((((FA.lsx hnn hcl)).cell i lti)))) (rv_ 6 (.bool false) (fun a ee => execDec (execGe8 (p := j) (q := nn i) rfl (ee _) (ee _)) (decide_eq_false (by omega))) (rf_ [(89, .bool false)] (h5_ t0 t3 t8 t9 t10) ?_)))))
        rintro a A ⟨t89, -⟩ ⟨t0, t3, t8, t9, t10, -⟩
        refine wp_cond_false t89 ?_
        clear t89
        refine wp_seq ?_
        refine wi_ A (h5_ t0 t3 t8 t9 t10) (rv_ 2 (.pointer (some ⟨adB (.slice (some ⟨gl, 0, none⟩) m cl), adO (.slice (some ⟨gl, 0, none⟩) m cl) + i, none⟩)) (fun a ee => execIdxLs (k := i) ((FA.lsx hnn hcl)) rfl (ee _) (ee _) lti) (rv_ 3 (x i) (fun a ee => execLdLs (k := i) ((FA.lsx hnn hcl)) rfl (ee _) lti) (rv_ 5 (.pointer (some ⟨adB (x i), adO (x i) + j, none⟩)) (fun a ee => execIdxSb (k := j) ((((FA.lsx hnn hcl)).cell i lti)) rfl (ee _) (ee _) hjn) (rv_ 6 (.int .u8 ((((fun t _ => t % 256) i) j : Nat) : Int)) (fun a ee => execLdSb (k := j) ((((FA.lsx hnn hcl)).cell i lti)) rfl (ee _) hjn) (rv_ 8 (.bool false) (fun a ee => execNe7 rfl (ee _) (ee _) rfl) (rf_ [(101, .bool false)] (h5_ t0 t3 t8 t9 t10) ?_))))))
        rintro a A ⟨t101, -⟩ ⟨t0, t3, t8, t9, t10, -⟩
        refine wp_cond_false t101 ?_
        refine wp_skip ?_
        clear t101
        refine wp_seq ?_
        refine wi_ A (h5_ t0 t3 t8 t9 t10) (rv_ 2 (.pointer (some ⟨adB (.slice (some ⟨gm, 0, none⟩) m m), adO (.slice (some ⟨gm, 0, none⟩) m m) + i, none⟩)) (fun a ee => execIdxLs (k := i) ((FA.lsg (fun _ _ => rfl) hd9 hm)) rfl (ee _) (ee _) lti) (rv_ 3 (y i) (fun a ee => execLdLs (k := i) ((FA.lsg (fun _ _ => rfl) hd9 hm)) rfl (ee _) lti) (rv_ 5 (.pointer (some ⟨adB (y i), adO (y i) + j, none⟩)) (fun a ee => execIdxSb (k := j) ((((FA.lsg (fun _ _ => rfl) hd9 hm)).cell i lti)) rfl (ee _) (ee _) ltj) (rv_ 6 (.int .u8 ((((fun t => gM (fun _ => t % 256) (nn t) ((100 + t) % 256)) i) j : Nat) : Int)) (fun a ee => execLdSb (k := j) ((((FA.lsg (fun _ _ => rfl) hd9 hm)).cell i lti)) rfl (ee _) ltj) (rv_ 8 (.bool false) (fun a ee => execNe7 rfl (ee _) (ee _) (if_pos hjn)) (rf_ [(110, .bool false)] (h4_ t0 t3 t8 t9) ?_))))))
        rintro a A ⟨t110, -⟩ ⟨t0, t3, t8, t9, -⟩
        refine wp_cond_false t110 ?_
        refine wp_skip ?_
        clear t110
        refine wi_ A (h4_ t0 t3 t8 t9) (rv_ 1 (.int .i64 ((j + 1 : Nat) : Int)) (fun a ee => execAd8 (p := j) (q := 1) rfl (ee _) rfl (by omega)) (rf_ [(9, .int .i64 ((j + 1 : Nat) : Int))] (h3_ t0 t3 t8) ?_))
        rintro a A ⟨t9, -⟩ ⟨t0, t3, t8, -⟩
        exact ⟨⟨j + 1, ltj, A, t0, t3, t8, t9, BB, FA⟩, by show dd i - (intOf (a.eval (.tmp 9))).toNat < dd i - (intOf (Act.eval _ (.tmp 9))).toNat; rw [t9, esj]; show dd i - (j + 1) < dd i - j; omega⟩
      · refine wp_seq ?_
        refine wp_seq ?_
        refine wi_ A (h5_ t0 t3 t8 t9 t10) (rv_ 3 (.pointer (some ⟨adB (.slice (some ⟨gl, 0, none⟩) m cl), adO (.slice (some ⟨gl, 0, none⟩) m cl) + i, none⟩)) (fun a ee => execIdxLs (k := i) ((FA.lsx hnn hcl)) rfl (ee _) (ee _) lti) (rv_ 4 (x i) (fun a ee => execLdLs (k := i) ((FA.lsx hnn hcl)) rfl (ee _) lti) (rv_ 5 (.int .i64 ((nn i : Nat) : Int)) (fun a ee => execLenV (len := nn i) rfl (ee _) (shp ((((FA.lsx hnn hcl)).cell i lti)))) (rv_ 6 (.bool true) (fun a ee => execDec (execGe8 (p := j) (q := nn i) rfl (ee _) (ee _)) (decide_eq_true (by omega))) (rf_ [(89, .bool true)] (h5_ t0 t3 t8 t9 t10) ?_)))))
        rintro a A ⟨t89, -⟩ ⟨t0, t3, t8, t9, t10, -⟩
        refine wp_cond_true t89 ?_
        clear t89
        refine wi_ A (h5_ t0 t3 t8 t9 t10) (rv_ 1 (.int .i64 ((100 + i : Nat) : Int)) (fun a ee => execAd8 (p := 100) (q := i) rfl rfl (ee _) (by omega)) (rv_ 2 (.int .u8 (((100 + i) % 256 : Nat) : Int)) (fun a ee => Cf.execU8 (n := 100 + i) rfl (ee _)) (rf_ [(10, .int .u8 (((100 + i) % 256 : Nat) : Int))] (h4_ t0 t3 t8 t9) ?_)))
        rintro a A ⟨t10, -⟩ ⟨t0, t3, t8, t9, -⟩
        refine wp_seq ?_
        refine wi_ A (h5_ t0 t3 t8 t9 t10) (rv_ 2 (.pointer (some ⟨adB (.slice (some ⟨gm, 0, none⟩) m m), adO (.slice (some ⟨gm, 0, none⟩) m m) + i, none⟩)) (fun a ee => execIdxLs (k := i) ((FA.lsg (fun _ _ => rfl) hd9 hm)) rfl (ee _) (ee _) lti) (rv_ 3 (y i) (fun a ee => execLdLs (k := i) ((FA.lsg (fun _ _ => rfl) hd9 hm)) rfl (ee _) lti) (rv_ 5 (.pointer (some ⟨adB (y i), adO (y i) + j, none⟩)) (fun a ee => execIdxSb (k := j) ((((FA.lsg (fun _ _ => rfl) hd9 hm)).cell i lti)) rfl (ee _) (ee _) ltj) (rv_ 6 (.int .u8 ((((fun t => gM (fun _ => t % 256) (nn t) ((100 + t) % 256)) i) j : Nat) : Int)) (fun a ee => execLdSb (k := j) ((((FA.lsg (fun _ _ => rfl) hd9 hm)).cell i lti)) rfl (ee _) ltj) (rv_ 8 (.bool false) (fun a ee => execNe7 rfl (ee _) (ee _) (if_neg hjn)) (rf_ [(110, .bool false)] (h4_ t0 t3 t8 t9) ?_))))))
        rintro a A ⟨t110, -⟩ ⟨t0, t3, t8, t9, -⟩
        refine wp_cond_false t110 ?_
        refine wp_skip ?_
        clear t110
        refine wi_ A (h4_ t0 t3 t8 t9) (rv_ 1 (.int .i64 ((j + 1 : Nat) : Int)) (fun a ee => execAd8 (p := j) (q := 1) rfl (ee _) rfl (by omega)) (rf_ [(9, .int .i64 ((j + 1 : Nat) : Int))] (h3_ t0 t3 t8) ?_))
        rintro a A ⟨t9, -⟩ ⟨t0, t3, t8, -⟩
        exact ⟨⟨j + 1, ltj, A, t0, t3, t8, t9, BB, FA⟩, by show dd i - (intOf (a.eval (.tmp 9))).toNat < dd i - (intOf (Act.eval _ (.tmp 9))).toNat; rw [t9, esj]; show dd i - (j + 1) < dd i - j; omega⟩
    · rw [decide_eq_false ltj] at t78
      refine wp_cond_false t78 ?_
      refine wp_exit ?_
      first | with_reducible refine exit_in ?_ | with_reducible refine exit_then (exit_in ?_) | with_reducible refine exit_then (exit_then (exit_in ?_)) | refine exit_in ?_ | refine exit_then (exit_in ?_) | refine exit_then (exit_then (exit_in ?_))
      clear t78 esj
      clear ltj hj
      refine wi_ A (h3_ t0 t3 t8) (rv_ 1 (.int .i64 ((i + 1 : Nat) : Int)) (fun a ee => execAd8 (p := i) (q := 1) rfl (ee _) rfl (by omega)) (rf_ [(8, .int .i64 ((i + 1 : Nat) : Int))] (h2_ t0 t3) ?_))
      rintro a A ⟨t8, -⟩ ⟨t0, t3, -⟩
      exact ⟨⟨i + 1, lti, A, t0, t3, t8, BB, FA⟩, by show m - (intOf (a.eval (.tmp 8))).toNat < m - (intOf (Act.eval _ (.tmp 8))).toNat; rw [t8, esi]; show m - (i + 1) < m - i; omega⟩
  · rw [decide_eq_false lti] at t69
    refine wp_cond_false t69 ?_
    refine wp_exit ?_
    first | with_reducible refine exit_in ?_ | with_reducible refine exit_then (exit_in ?_) | with_reducible refine exit_then (exit_then (exit_in ?_)) | refine exit_in ?_ | refine exit_then (exit_in ?_) | refine exit_then (exit_then (exit_in ?_))
    clear t69 esi
    refine wp_seq ?_
    refine wi_ A h0_ (rg_ [(2, .bool true)] ?_)
    rintro a A ⟨t2, -⟩
    refine wp_ret ?_
    refine bodyPost_ret (results_tmp rfl _ _ _) A.2 ⟨?_, FA.sv, BB⟩
    show Ending.returned (a.eval (.tmp 2)) = _
    rw [t2]
set_option maxRecDepth 100000 in
set_option maxHeartbeats 4000000 in
/-- apart, from region 10: each grows by twenty. -/
theorem apart27b (U V : World) (m gl cl : Nat) (x : Nat → Value) (nn : Nat → Nat) (hm : m ≤ 1000) (hcl : m ≤ cl ∧ cl < 9223372036854775808) (hnn : ∀ t, t < m → nn t ≤ 1000000) (S : World) (mo : Nat → Value) (gm : Nat) (hz0 : ∀ t, t < m → mo t = x t) (BB : Below U.heap.size U S) (FA : (S7 U V S m x nn x nn gl gm mo))
    (a : Act) (A : a.tmps.size = 111 ∧ a.defers = []) (t0 : a.eval (.tmp 0) = .slice (some ⟨gl, 0, none⟩) m cl) (t3 : a.eval (.tmp 3) = .slice (some ⟨gm, 0, none⟩) m m) :
    (Tap.findR 10 (Tryz.f11.body.getD .skip)).wp Tryz.prog (bodyPost Tryz.prog Tryz.f11 fun e w' => e = .returned (.bool true) ∧ Saved (Gx m x) V w' ∧ Below U.heap.size U w') a S := by
  refine wp_seq ?_
  refine wp_seq ?_
  refine wi_ A (h2_ t0 t3) (rf_ [(6, .int .i64 ((0 : Nat) : Int))] (h2_ t0 t3) ?_)
  rintro a A ⟨t6, -⟩ ⟨t0, t3, -⟩
  refine wp_block ?_
  refine wp_loop (fun a W => ∃ (k : Nat) (y : Nat → Value) (dd : Nat → Nat) (z : Nat → Value), k ≤ 20 ∧ (k ≤ 20) ∧ (∀ t, t < m → z t = y t) ∧ (∀ t, t < m → dd t = nn t + k) ∧ (a.tmps.size = 111 ∧ a.defers = []) ∧ a.eval (.tmp 0) = .slice (some ⟨gl, 0, none⟩) m cl ∧ a.eval (.tmp 3) = .slice (some ⟨gm, 0, none⟩) m m ∧ a.eval (.tmp 6) = .int .i64 ((k : Nat) : Int) ∧ Below U.heap.size U W ∧ (S7 U V W m x nn y dd gl gm z)) (fun a _ => 20 - (intOf (a.eval (.tmp 6))).toNat) ⟨0, x, nn, mo, Nat.zero_le _, Nat.zero_le _, hz0, fun _ _ => rfl, A, t0, t3, t6, BB, FA⟩ ?_
  clear A t0 t3 t6 BB FA a
  rintro a XL11 ⟨k, y, dd, z, hk, hk20, hz, hdk, A, t0, t3, t6, BB, FA⟩
  have esk := t6
  refine wp_seq ?_
  refine wp_seq ?_
  refine wi_ A (h3_ t0 t3 t6) (rv_ 1 (.bool (decide (k < 20))) (fun a ee => execLtW (p := k) (q := 20) rfl (ee _) rfl) (rf_ [(45, .bool (decide (k < 20)))] (h3_ t0 t3 t6) ?_))
  rintro a A ⟨t45, -⟩ ⟨t0, t3, t6, -⟩
  by_cases ltk : k < 20
  · rw [decide_eq_true ltk] at t45
    refine wp_cond_true t45 ?_
    refine wp_skip ?_
    clear t45
    refine wp_seq ?_
    refine wp_block ?_
    refine wp_seq ?_
    refine wi_ A (h3_ t0 t3 t6) (rf_ [(7, .int .i64 ((0 : Nat) : Int))] (h3_ t0 t3 t6) ?_)
    rintro a A ⟨t7, -⟩ ⟨t0, t3, t6, -⟩
    refine wp_block ?_
    refine wp_loop (fun a W => ∃ (i : Nat) (y2 : Nat → Value) (dd2 : Nat → Nat) (z2 : Nat → Value), i ≤ m ∧ (∀ t, t < m → z2 t = y2 t) ∧ (∀ t, t < m → dd2 t = nn t + if t < i then k + 1 else k) ∧ (a.tmps.size = 111 ∧ a.defers = []) ∧ a.eval (.tmp 0) = .slice (some ⟨gl, 0, none⟩) m cl ∧ a.eval (.tmp 3) = .slice (some ⟨gm, 0, none⟩) m m ∧ a.eval (.tmp 6) = .int .i64 ((k : Nat) : Int) ∧ a.eval (.tmp 7) = .int .i64 ((i : Nat) : Int) ∧ Below U.heap.size U W ∧ (S7 U V W m x nn y2 dd2 gl gm z2)) (fun a _ => m - (intOf (a.eval (.tmp 7))).toNat) ⟨0, y, dd, z, Nat.zero_le _, hz, fun t ht => by rw [if_neg (Nat.not_lt_zero t)]; exact hdk t ht, A, t0, t3, t6, t7, BB, FA⟩ ?_
    clear A t0 t3 t6 t7 BB FA a
    rintro a XL14 ⟨i, y2, dd2, z2, hi, hz2, hd2, A, t0, t3, t6, t7, BB, FA⟩
    have esi := t7
    refine wp_seq ?_
    refine wp_seq ?_
    refine wi_ A (h4_ t0 t3 t6 t7) (rv_ 2 (.int .i64 ((m : Nat) : Int)) (fun a ee => execLenLL rfl (ee _) ((FA.lsg hz2 (fun t ht => (by have h1 := hd2 t ht; have := hnn t ht; split at h1 <;> omega)) hm)).shp) (rv_ 3 (.bool (decide (i < m))) (fun a ee => execLtW (p := i) (q := m) rfl (ee _) (ee _)) (rf_ [(51, .bool (decide (i < m)))] (h4_ t0 t3 t6 t7) ?_)))
    rintro a A ⟨t51, -⟩ ⟨t0, t3, t6, t7, -⟩
    by_cases lti : i < m
    · rw [decide_eq_true lti] at t51
      refine wp_cond_true t51 ?_
      refine wp_skip ?_
      clear t51
      refine wp_seq ?_
      refine wp_block ?_
      have hni := hnn i lti
      have hdi := hd2 i lti
      rw [if_neg (Nat.lt_irrefl i)] at hdi
      have hd9 : ∀ t, t < m → dd2 t ≤ 140737488351232 := fun t ht => (by have h1 := hd2 t ht; have := hnn t ht; split at h1 <;> omega)
      obtain ⟨g63, egg63⟩ : ∃ z_ : Nat, XL14.heap.size = z_ := ⟨_, rfl⟩
      refine wi_ A (h4_ t0 t3 t6 t7) (rv_ 4 (.pointer (some ⟨adB (.slice (some ⟨gm, 0, none⟩) m m), adO (.slice (some ⟨gm, 0, none⟩) m m) + i, none⟩)) (fun a ee => execIdxLs (k := i) ((FA.lsg hz2 hd9 hm)) rfl (ee _) (ee _) lti) (rv_ 5 (y2 i) (fun a ee => execLdLs (k := i) ((FA.lsg hz2 hd9 hm)) rfl (ee _) lti) (rv_ 7 (.int .i64 ((100 + i : Nat) : Int)) (fun a ee => execAd8 (p := 100) (q := i) rfl rfl (ee _) (by omega)) (rv_ 8 (.int .u8 (((100 + i) % 256 : Nat) : Int)) (fun a ee => Cf.execU8 (n := 100 + i) rfl (ee _)) (rs_ 9 (fun a ee => ?_))))))
      refine stepV rfl rfl (execBs7 rfl (ee _)) ⟨.slice (some ⟨g63, 0, none⟩) 1 1, ⟨_, rfl, by subst egg63; rfl⟩, fun X16_1 hX => ?_⟩
      have bQ : Below XL14.heap.size XL14 X16_1 := by subst hX egg63; exact (belNew XL14 _)
      have Fg63 : (X16_1.heap[g63]? = some (.cells #[.int .u8 (((100 + i) % 256 : Nat) : Int)] 5)) := by subst hX egg63; exact heapNew XL14 _
      replace FA := (FA.on bQ)
      replace BB := BB.trans (bQ.mono BB.size)
      clear bQ hX egg63 ee a
      refine rs_ 10 (fun a ee => ?_)
      refine stepA7 (i := i) rfl rfl rfl (ee _) (ee _) FA Fg63 lti (by omega) fun v64 X16_2 has => ⟨_, ⟨_, rfl, rfl⟩, eqw ?_⟩
      obtain ⟨BB, FA2⟩ : Below U.heap.size U X16_2 ∧ (S7 U V X16_2 m x nn (updX y2 i v64) (dd1 dd2 i) gl gm z2) := ⟨has.bel, has⟩
      clear FA Fg63 ee a
      refine rv_ 11 (.pointer (some ⟨gm, 0 + i, none⟩)) (fun a ee => Cf.execIdxL (k := i) rfl (ee _) (ee _) lti) (rs_ 12 (fun a ee => ?_))
      refine stepS rfl rfl (Cf.execStL rfl (ee _) (ee _) (shp8 (v := v64) (FA2.ap.grown i lti)) (FA2.gr.at lti).1 (FA2.gr.at lti).2) ⟨_, ⟨_, rfl, rfl⟩, fun X16 hX => ?_⟩
      obtain ⟨BB, FA3⟩ : Below U.heap.size U X16 ∧ (S7 U V X16 m x nn (updX y2 i v64) (dd1 dd2 i) gl gm (updX z2 i v64)) := by subst hX; exact ⟨(FA2.put0 i).bel, FA2.put0 i⟩
      clear FA2 hX ee a
      refine rf_ [] (h4_ t0 t3 t6 t7) ?_
      rintro a A - ⟨t0, t3, t6, t7, -⟩
      refine wi_ A (h4_ t0 t3 t6 t7) (rv_ 1 (.int .i64 ((i + 1 : Nat) : Int)) (fun a ee => execAd8 (p := i) (q := 1) rfl (ee _) rfl (by omega)) (rf_ [(7, .int .i64 ((i + 1 : Nat) : Int))] (h3_ t0 t3 t6) ?_))
      rintro a A ⟨t7, -⟩ ⟨t0, t3, t6, -⟩
      exact ⟨⟨i + 1, _, _, _, lti, updX_same hz2, dd_on hd2, A, t0, t3, t6, t7, BB, FA3⟩, by show m - (intOf (a.eval (.tmp 7))).toNat < m - (intOf (Act.eval _ (.tmp 7))).toNat; rw [t7, esi]; show m - (i + 1) < m - i; omega⟩
    · rw [decide_eq_false lti] at t51
      refine wp_cond_false t51 ?_
      refine wp_exit ?_
      first | with_reducible refine exit_in ?_ | with_reducible refine exit_then (exit_in ?_) | with_reducible refine exit_then (exit_then (exit_in ?_)) | refine exit_in ?_ | refine exit_then (exit_in ?_) | refine exit_then (exit_then (exit_in ?_))
      clear t51 esi
      have hdn : ∀ t, t < m → dd2 t = nn t + (k + 1) := fun t ht => by rw [hd2 t ht, if_pos (by omega)]
      clear lti hi
      refine wi_ A (h3_ t0 t3 t6) (rv_ 1 (.int .i64 ((k + 1 : Nat) : Int)) (fun a ee => execAd8 (p := k) (q := 1) rfl (ee _) rfl (by omega)) (rf_ [(6, .int .i64 ((k + 1 : Nat) : Int))] (h2_ t0 t3) ?_))
      rintro a A ⟨t6, -⟩ ⟨t0, t3, -⟩
      exact ⟨⟨k + 1, y2, dd2, z2, ltk, ltk, hz2, hdn, A, t0, t3, t6, BB, FA⟩, by show 20 - (intOf (a.eval (.tmp 6))).toNat < 20 - (intOf (Act.eval _ (.tmp 6))).toNat; rw [t6, esk]; show 20 - (k + 1) < 20 - k; omega⟩
  · rw [decide_eq_false ltk] at t45
    refine wp_cond_false t45 ?_
    refine wp_exit ?_
    first | with_reducible refine exit_in ?_ | with_reducible refine exit_then (exit_in ?_) | with_reducible refine exit_then (exit_then (exit_in ?_)) | refine exit_in ?_ | refine exit_then (exit_in ?_) | refine exit_then (exit_then (exit_in ?_))
    clear t45 esk
    exact apart27c U V m gl cl x nn hm hcl hnn _ y dd gm (fun t ht => by rw [hdk t ht]; omega) BB ⟨FA.bel, FA.ap, FA.li, FA.gr.cg hz, FA.sv, FA.pl, FA.ne, FA.hU, FA.hV⟩ a A t0 t3
set_option maxRecDepth 100000 in
set_option maxHeartbeats 4000000 in
/-- The law's apart: lists apart are found apart; only they are written. -/
theorem apart27 (U V : World) (m gl cl : Nat) (x : Nat → Value) (nn : Nat → Nat) (hm : m ≤ 1000) (hcl : m ≤ cl ∧ cl < 9223372036854775808) (hnn : ∀ t, t < m → nn t ≤ 1000000) (ff : Nat → Nat → Nat) (BB : Below U.heap.size U V) (hfam : Fam U.heap.size m x nn ff V) (hli : Ro V gl m x) (hby : ∀ t, t < m → ∀ l, l < nn t → ff t l < 256) :
    Calls Tryz.prog 11 #[.slice (some ⟨gl, 0, none⟩) m cl] V fun e w' => e = .returned (.bool true) ∧ Saved (Gx m x) V w' ∧ Below U.heap.size U w' := by
  go_enter Tryz.func11, Tryz.ntmps11
  refine wp_seq ?_
  refine wo_ 111 [(0, .slice (some ⟨gl, 0, none⟩) m cl)] ?_
  rintro a A ⟨t0, -⟩
  refine wi_ A (h1_ t0) (rf_ [] (h1_ t0) ?_)
  rintro a A - ⟨t0, -⟩
  have BW : Below V.heap.size V V := Below.refl _ _
  clear BW
  have F0 : A7 U V V m x nn ff gl := ⟨BB, hfam, hli, Saved.refl _ _, hby⟩
  refine wp_seq ?_
  obtain ⟨gm, eggm⟩ : ∃ z_ : Nat, V.heap.size = z_ := ⟨_, rfl⟩
  refine wi_ A (h1_ t0) (rv_ 1 (.int .i64 ((m : Nat) : Int)) (fun a ee => execLenLL rfl (ee _) ((F0.ls hnn hcl)).shp) (rs_ 2 (fun a ee => ?_)))
  refine stepV rfl rfl (Tap.execMkL rfl (ee _) (ee _) (by omega)) ⟨.slice (some ⟨gm, 0, none⟩) m m, ⟨_, rfl, by subst eggm; rfl⟩, fun X1 hX => ?_⟩
  have bQ : Below V.heap.size V X1 := by subst hX eggm; exact (belNew V _)
  have FM : (Ro X1 gm m (fun _ => .slice none 0 0)) := by subst hX eggm; exact ro_new V m
  have Fb : (gl ≠ gm) := by subst hX eggm; exact (fun e_ => by have := F0.li.lt; omega)
  have FU : (U.heap.size ≤ gm) := by subst hX eggm; exact (BB).size
  have FV : (V.heap.size ≤ gm) := by subst hX eggm; exact F0.sv.size
  replace F0 := (F0.on bQ)
  replace BB := BB.trans (bQ.mono BB.size)
  clear bQ hX eggm ee a
  refine rf_ [(3, .slice (some ⟨gm, 0, none⟩) m m)] (h1_ t0) ?_
  rintro a A ⟨t3, -⟩ ⟨t0, -⟩
  refine wp_seq ?_
  refine wp_seq ?_
  refine wi_ A (h2_ t0 t3) (rf_ [(4, .int .i64 ((0 : Nat) : Int))] (h2_ t0 t3) ?_)
  rintro a A ⟨t4, -⟩ ⟨t0, t3, -⟩
  refine wp_block ?_
  refine wp_loop (fun a W => ∃ (i : Nat) (f1 : Nat → Nat → Nat) (z : Nat → Value), i ≤ m ∧ (∀ s, s < i → ∀ l, l < nn s → f1 s l = s % 256) ∧ (∀ t, t < i → z t = x t) ∧ (a.tmps.size = 111 ∧ a.defers = []) ∧ a.eval (.tmp 0) = .slice (some ⟨gl, 0, none⟩) m cl ∧ a.eval (.tmp 3) = .slice (some ⟨gm, 0, none⟩) m m ∧ a.eval (.tmp 4) = .int .i64 ((i : Nat) : Int) ∧ Below U.heap.size U W ∧ (A7 U V W m x nn f1 gl) ∧ (Ro W gm m z)) (fun a _ => m - (intOf (a.eval (.tmp 4))).toNat) ⟨0, ff, fun _ => .slice none 0 0, Nat.zero_le _, fun s hs => absurd hs (Nat.not_lt_zero _), fun t ht => absurd ht (Nat.not_lt_zero _), A, t0, t3, t4, BB, F0, FM⟩ ?_
  clear A t0 t3 t4 BB F0 FM a
  rintro a XL3 ⟨i, f1, z, hi, hmk, hz, A, t0, t3, t4, BB, F0, FM⟩
  have esi := t4
  refine wp_seq ?_
  refine wp_seq ?_
  refine wi_ A (h3_ t0 t3 t4) (rv_ 2 (.int .i64 ((m : Nat) : Int)) (fun a ee => execLenLL rfl (ee _) ((F0.ls hnn hcl)).shp) (rv_ 3 (.bool (decide (i < m))) (fun a ee => execLtW (p := i) (q := m) rfl (ee _) (ee _)) (rf_ [(17, .bool (decide (i < m)))] (h3_ t0 t3 t4) ?_)))
  rintro a A ⟨t17, -⟩ ⟨t0, t3, t4, -⟩
  by_cases lti : i < m
  · rw [decide_eq_true lti] at t17
    refine wp_cond_true t17 ?_
    refine wp_skip ?_
    clear t17
    refine wp_seq ?_
    refine wp_block ?_
    have hni := hnn i lti
    refine wp_seq ?_
    refine wp_seq ?_
    refine wi_ A (h3_ t0 t3 t4) (rf_ [(5, .int .i64 ((0 : Nat) : Int))] (h3_ t0 t3 t4) ?_)
    rintro a A ⟨t5, -⟩ ⟨t0, t3, t4, -⟩
    refine wp_block ?_
    refine wp_loop (fun a W => ∃ (j : Nat) (f2 : Nat → Nat → Nat), j ≤ nn i ∧ (∀ s, s < i → ∀ l, l < nn s → f2 s l = s % 256) ∧ (∀ l, l < j → f2 i l = i % 256) ∧ (a.tmps.size = 111 ∧ a.defers = []) ∧ a.eval (.tmp 0) = .slice (some ⟨gl, 0, none⟩) m cl ∧ a.eval (.tmp 3) = .slice (some ⟨gm, 0, none⟩) m m ∧ a.eval (.tmp 4) = .int .i64 ((i : Nat) : Int) ∧ a.eval (.tmp 5) = .int .i64 ((j : Nat) : Int) ∧ Below U.heap.size U W ∧ (A7 U V W m x nn f2 gl) ∧ (Ro W gm m z)) (fun a _ => nn i - (intOf (a.eval (.tmp 5))).toNat) ⟨0, f1, Nat.zero_le _, hmk, fun l hl => absurd hl (Nat.not_lt_zero _), A, t0, t3, t4, t5, BB, F0, FM⟩ ?_
    clear A t0 t3 t4 t5 BB F0 FM a
    rintro a XL6 ⟨j, f2, hj, hmk, hin, A, t0, t3, t4, t5, BB, F0, FM⟩
    have esj := t5
    refine wp_seq ?_
    refine wp_seq ?_
    refine wi_ A (h4_ t0 t3 t4 t5) (rv_ 3 (.pointer (some ⟨adB (.slice (some ⟨gl, 0, none⟩) m cl), adO (.slice (some ⟨gl, 0, none⟩) m cl) + i, none⟩)) (fun a ee => execIdxLs (k := i) ((F0.ls hnn hcl)) rfl (ee _) (ee _) lti) (rv_ 4 (x i) (fun a ee => execLdLs (k := i) ((F0.ls hnn hcl)) rfl (ee _) lti) (rv_ 5 (.int .i64 ((nn i : Nat) : Int)) (fun a ee => execLenV (len := nn i) rfl (ee _) (shp ((((F0.ls hnn hcl)).cell i lti)))) (rv_ 6 (.bool (decide (j < nn i))) (fun a ee => execLtW (p := j) (q := nn i) rfl (ee _) (ee _)) (rf_ [(26, .bool (decide (j < nn i)))] (h4_ t0 t3 t4 t5) ?_)))))
    rintro a A ⟨t26, -⟩ ⟨t0, t3, t4, t5, -⟩
    by_cases ltj : j < nn i
    · rw [decide_eq_true ltj] at t26
      refine wp_cond_true t26 ?_
      refine wp_skip ?_
      clear t26
      refine wp_seq ?_
      refine wp_block ?_
      refine wi_ A (h4_ t0 t3 t4 t5) (rv_ 2 (.pointer (some ⟨adB (.slice (some ⟨gl, 0, none⟩) m cl), adO (.slice (some ⟨gl, 0, none⟩) m cl) + i, none⟩)) (fun a ee => execIdxLs (k := i) ((F0.ls hnn hcl)) rfl (ee _) (ee _) lti) (rv_ 3 (x i) (fun a ee => execLdLs (k := i) ((F0.ls hnn hcl)) rfl (ee _) lti) (rv_ 6 (.int .u8 (((i) % 256 : Nat) : Int)) (fun a ee => Cf.execU8 (n := i) rfl (ee _)) (rv_ 7 (.pointer (some ⟨adB (x i), adO (x i) + j, none⟩)) (fun a ee => execIdxSb (k := j) ((((F0.ls hnn hcl)).cell i lti)) rfl (ee _) (ee _) ltj) (rs_ 8 (fun a ee => ?_))))))
      refine stepS rfl rfl (execStB rfl (ee _) (ee _) (F0.cell lti ltj).1 (F0.cell lti ltj).2) ⟨_, ⟨_, rfl, rfl⟩, fun X8 hX => ?_⟩
      obtain ⟨BB, F02, FM2⟩ : Below U.heap.size U X8 ∧ (A7 U V X8 m x nn (updB f2 i j (i % 256)) gl) ∧ (Ro X8 gm m z) := by subst hX; exact ⟨(F0.set lti ltj (Nat.mod_lt i (by decide))).bel, F0.set lti ltj (Nat.mod_lt i (by decide)), Ro.byteS F0 FM lti ltj⟩
      clear F0 FM hX ee a
      refine rf_ [] (h4_ t0 t3 t4 t5) ?_
      rintro a A - ⟨t0, t3, t4, t5, -⟩
      refine wi_ A (h4_ t0 t3 t4 t5) (rv_ 1 (.int .i64 ((j + 1 : Nat) : Int)) (fun a ee => execAd8 (p := j) (q := 1) rfl (ee _) rfl (by omega)) (rf_ [(5, .int .i64 ((j + 1 : Nat) : Int))] (h3_ t0 t3 t4) ?_))
      rintro a A ⟨t5, -⟩ ⟨t0, t3, t4, -⟩
      exact ⟨⟨j + 1, _, ltj, mark_o hmk, mark_i hin, A, t0, t3, t4, t5, BB, F02, FM2⟩, by show nn i - (intOf (a.eval (.tmp 5))).toNat < nn i - (intOf (Act.eval _ (.tmp 5))).toNat; rw [t5, esj]; show nn i - (j + 1) < nn i - j; omega⟩
    · rw [decide_eq_false ltj] at t26
      refine wp_cond_false t26 ?_
      refine wp_exit ?_
      first | with_reducible refine exit_in ?_ | with_reducible refine exit_then (exit_in ?_) | with_reducible refine exit_then (exit_then (exit_in ?_)) | refine exit_in ?_ | refine exit_then (exit_in ?_) | refine exit_then (exit_then (exit_in ?_))
      clear t26 esj
      obtain rfl : j = nn i := by omega
      clear ltj hj
      refine wi_ A (h3_ t0 t3 t4) (rv_ 4 (.pointer (some ⟨adB (.slice (some ⟨gl, 0, none⟩) m cl), adO (.slice (some ⟨gl, 0, none⟩) m cl) + i, none⟩)) (fun a ee => execIdxLs (k := i) ((F0.ls hnn hcl)) rfl (ee _) (ee _) lti) (rv_ 5 (x i) (fun a ee => execLdLs (k := i) ((F0.ls hnn hcl)) rfl (ee _) lti) (rv_ 6 (.pointer (some ⟨gm, 0 + i, none⟩)) (fun a ee => Cf.execIdxL (k := i) rfl (ee _) (ee _) lti) (rs_ 7 (fun a ee => ?_)))))
      refine stepS rfl rfl (Cf.execStL rfl (ee _) (ee _) (shp7 (F0.fam.rows i lti)) (FM.at lti).1 (FM.at lti).2) ⟨_, ⟨_, rfl, rfl⟩, fun X9 hX => ?_⟩
      obtain ⟨BB, F03, FM3⟩ : Below U.heap.size U X9 ∧ (A7 U V X9 m x nn f2 gl) ∧ (Ro X9 gm m (updX z i (x i))) := by subst hX; exact ⟨(BB).setCell FU _, F0.put FM Fb FU FV, (by rw [Nat.zero_add]; exact FM.put i)⟩
      clear F0 FM hX ee a
      refine rf_ [] (h3_ t0 t3 t4) ?_
      rintro a A - ⟨t0, t3, t4, -⟩
      refine wi_ A (h3_ t0 t3 t4) (rv_ 1 (.int .i64 ((i + 1 : Nat) : Int)) (fun a ee => execAd8 (p := i) (q := 1) rfl (ee _) rfl (by omega)) (rf_ [(4, .int .i64 ((i + 1 : Nat) : Int))] (h2_ t0 t3) ?_))
      rintro a A ⟨t4, -⟩ ⟨t0, t3, -⟩
      exact ⟨⟨i + 1, f2, _, lti, mark_next hmk hin, nx_z hz, A, t0, t3, t4, BB, F03, FM3⟩, by show m - (intOf (a.eval (.tmp 4))).toNat < m - (intOf (Act.eval _ (.tmp 4))).toNat; rw [t4, esi]; show m - (i + 1) < m - i; omega⟩
  · rw [decide_eq_false lti] at t17
    refine wp_cond_false t17 ?_
    refine wp_exit ?_
    first | with_reducible refine exit_in ?_ | with_reducible refine exit_then (exit_in ?_) | with_reducible refine exit_then (exit_then (exit_in ?_)) | refine exit_in ?_ | refine exit_then (exit_in ?_) | refine exit_then (exit_then (exit_in ?_))
    clear t17 esi
    exact apart27b U V m gl cl x nn hm hcl hnn _ z gm (fun t ht => hz t (by omega)) BB (S7.begin F0 FM Fb FU FV (fun t ht => hmk t (by omega))) a A t0 t3
end Go.Proofs.YteekoabgbjbabaaGreatDoor.Rpl
