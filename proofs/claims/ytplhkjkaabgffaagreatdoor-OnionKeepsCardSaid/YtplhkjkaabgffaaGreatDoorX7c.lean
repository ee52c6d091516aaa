import Derived.Test.YtplhkjkaabgffaaGreatDoorY6
import Derived.Test.YtplhkjkaabgffaaGreatDoorL3
namespace Go.Proofs.YtplhkjkaabgffaaGreatDoor.By8
open Go.RowKit Gf8 Aes
/- All but some blocks as they were; rows of lists. -/

/-- All but the blocks G is as it was. -/
structure Saved (G : Nat → Prop) (w w' : World) : Prop where
  os : w'.os = w.os
  tape : w'.tape = w.tape
  output : w'.output = w.output
  size : w.heap.size ≤ w'.heap.size
  block : ∀ k, k < w.heap.size → ¬ G k → w'.heap[k]? = w.heap[k]?
theorem Saved.refl (G : Nat → Prop) (w : World) : Saved G w w := ⟨rfl, rfl, rfl, Nat.le_refl _, fun _ _ _ => rfl⟩
theorem Saved.below {G : Nat → Prop} {w w' w'' : World} {B : Nat} (h : Saved G w w') (hb : Below B w' w'') (hB : w.heap.size ≤ B) : Saved G w w'' :=
  ⟨hb.os.trans h.os, hb.tape.trans h.tape, hb.output.trans h.output, Nat.le_trans h.size hb.size, fun k hk hG => by rw [hb.block k (by omega), h.block k hk hG]⟩
theorem Saved.cell {G : Nat → Prop} {w w' : World} (h : Saved G w w') {b o : Nat} (v : Value) (hG : w.heap.size ≤ b ∨ G b) : Saved G w (w'.setCell ⟨b, o, none⟩ v) := by
  have hb : Below b w' (w'.setCell ⟨b, o, none⟩ v) := (Below.refl _ _).setCell (p := ⟨b, o, none⟩) (Nat.le_refl _) v
  refine ⟨hb.os.trans h.os, hb.tape.trans h.tape, hb.output.trans h.output, Nat.le_trans h.size hb.size, fun k hk hk2 => ?_⟩
  rw [Below.heap_setCell _ _ _ _ (fun e => by subst e; rcases hG with h | h; omega; exact hk2 h), h.block k hk hk2]
theorem Saved.grown {G : Nat → Prop} {w w' w'' : World} {row : Option Nat} (h : Saved G w w') (hg : w'.grownBy w'' row) (hG : ∀ k, row = some k → w.heap.size ≤ k ∨ G k) : Saved G w w'' :=
  ⟨hg.os.trans h.os, hg.tape.trans h.tape, hg.output.trans h.output, Nat.le_trans h.size hg.size, fun k hk hk2 => by
    rw [hg.block k (Nat.lt_of_lt_of_le hk h.size) (fun e => by rcases hG k e.symm with h | h; omega; exact hk2 h), h.block k hk hk2]⟩
theorem bytesL_congr {n : Nat} {f g : Nat → Nat} (h : ∀ j, j < n → f j = g j) : bytesL n f = bytesL n g := by
  unfold bytesL
  refine List.map_congr_left fun j hj => ?_
  rw [h j (List.mem_range.1 hj)]
theorem infoB : ∃ i, Tryz.prog.info? 22 = some i ∧ i.zero = some (.slice none 0 0) ∧ i.size = 1 ∧ i.bytes = 24 := by
  have h : (Tryz.prog.info? 22).map (fun i => (i.zero, i.size, i.bytes)) = some (some (.slice none 0 0), 1, 24) := by kernel_rfl
  cases hq : Tryz.prog.info? 22 with
  | none => rw [hq] at h; cases h
  | some i =>
    rw [hq] at h
    simp only [Option.map_some, Option.some.injEq, Prod.mk.injEq] at h
    exact ⟨i, rfl, h.1, h.2.1, h.2.2⟩
/-- A row of one's own stays where a cell of another block is set. -/
theorem own_stays {W : World} {B n b k : Nat} {v u : Value} {xs : List Value} {c : Array Value} {ty : TypeId} (h : W.ownsRow B 5 1 v n xs) (hb : W.heap[b]? = some (.cells c ty)) (hv : v.ownBlock ≠ some b) : (W.setCell ⟨b, k, none⟩ u).ownsRow B 5 1 v n xs :=
  h.kept (row := some b) ⟨rfl, rfl, rfl, by simp, fun i _ hi => heap4o _ hb (fun e => hi (by rw [e]))⟩ (.inr hv)
theorem own_any {W : World} {B n : Nat} {v : Value} {xs : List Value} (h : W.ownsRow B 5 1 v n xs) : ∃ ao cap, v = .slice ao n cap := by
  rcases h.2 with ⟨rfl, rfl⟩ | ⟨g, cap, cur, rfl, _⟩
  · exact ⟨_, _, rfl⟩
  · exact ⟨_, _, rfl⟩
theorem own_shape0 {W : World} {B n cap m : Nat} {ao : Option Addr} {xs : List Value} (h : W.ownsRow B 5 1 (.slice ao n cap) n xs) (hm : m < n) : ∃ g, ao = some ⟨g, 0, none⟩ ∧ ∃ cur, W.heap[g]? = some (.cells cur 5) ∧ m < cur.size := by
  rcases h.2 with ⟨e, h0⟩ | ⟨g, c, cur, e, _, hg, hnc, _, hcs, _⟩
  · omega
  · injection e with e1 _ _
    exact ⟨g, e1, cur, hg, by omega⟩
theorem slice_grown {W W' : World} {v : Value} {n : Nat} {f : Nat → Nat} {row : Option Nat} (h : SliceN W v n f) (hg : W.grownBy W' row) (hv : ∀ k, v.ownBlock = some k → row ≠ some k) : SliceN W' v n f := by
  obtain ⟨⟨a, cap, e, h1, h2, h3⟩, hp⟩ := h
  refine ⟨⟨a, cap, e, h1, h2, fun h0 => ?_⟩, hp⟩
  obtain ⟨b, off, e1, e2, e3⟩ := h3 h0
  subst e e1
  exact ⟨b, off, rfl, Nat.lt_of_lt_of_le e2 hg.size, fun j hj => hg.cell (e3 j hj) (fun e => hv b rfl e.symm)⟩
theorem grown_set {W : World} {b k : Nat} {u : Value} {c : Array Value} {ty : TypeId} (hb : W.heap[b]? = some (.cells c ty)) : W.grownBy (W.setCell ⟨b, k, none⟩ u) (some b) :=
  ⟨rfl, rfl, rfl, by simp, fun i _ hi => heap4o _ hb (fun e => hi (by rw [e]))⟩
end Go.Proofs.YtplhkjkaabgffaaGreatDoor.By8

namespace Go.Proofs.YtplhkjkaabgffaaGreatDoor.Cel
open Go.RowKit Gf8 Aes By8
/- CellKeeps: rows of one's own, many side by side; lists of lists. -/

/-- m rows of bytes, each of its own, no two of one block. -/
structure Fam (B m : Nat) (x : Nat → Value) (nn : Nat → Nat) (ff : Nat → Nat → Nat) (W : World) : Prop where
  rows : ∀ t, t < m → W.ownsRow B 5 1 (x t) (nn t) (bytesL (nn t) (ff t))
  dis : ∀ s t, s < m → t < m → s ≠ t → Dis (x s) (x t)
theorem Fam.none (B : Nat) (x : Nat → Value) (nn : Nat → Nat) (ff : Nat → Nat → Nat) (W : World) : Fam B 0 x nn ff W := ⟨fun t h => by omega, fun s t h => by omega⟩
theorem Fam.on {B m : Nat} {x : Nat → Value} {nn : Nat → Nat} {ff : Nat → Nat → Nat} {W W' : World} (h : Fam B m x nn ff W) (hb : Below W.heap.size W W') : Fam B m x nn ff W' := ⟨fun t ht => ownsRow_below (h.rows t ht) hb, h.dis⟩
def updX (x : Nat → Value) (m : Nat) (r : Value) : Nat → Value := fun t => if t = m then r else x t
theorem updX_at (x : Nat → Value) (m : Nat) (r : Value) : updX x m r m = r := if_pos rfl
theorem updX_lt (x : Nat → Value) {m t : Nat} (r : Value) (h : t < m) : updX x m r t = x t := if_neg (by omega)
/-- One more, made behind all that lay. -/
theorem Fam.add {B m : Nat} {x : Nat → Value} {nn : Nat → Nat} {ff : Nat → Nat → Nat} {W W' : World} (h : Fam B m x nn ff W) (hb : Below W.heap.size W W') (hB : B ≤ W.heap.size) {r : Value} (hr : W'.ownsRow W.heap.size 5 1 r (nn m) (bytesL (nn m) (ff m))) : Fam B (m + 1) (updX x m r) nn ff W' := by
  refine ⟨fun t ht => ?_, fun s t hs ht hst => ?_⟩
  · by_cases e : t = m
    · subst e; rw [updX_at]; exact own_base hr hB
    · rw [updX_lt _ _ (by omega)]; exact ownsRow_below (h.rows t (by omega)) hb
  · by_cases e : t = m
    · subst e
      rw [updX_at, updX_lt _ _ (by omega)]
      exact dis_new (h.rows s (by omega)) hr
    · rw [updX_lt x r (show t < m by omega)]
      by_cases e2 : s = m
      · subst e2
        rw [updX_at]
        exact (dis_new (h.rows t (by omega)) hr).symm
      · rw [updX_lt _ _ (by omega)]
        exact h.dis s t (by omega) (by omega) hst
/-- A row of bytes lies in a block of bytes. -/
theorem own_type {W : World} {B n k : Nat} {v : Value} {xs : List Value} (h : W.ownsRow B 5 1 v n xs) (hk : v.ownBlock = some k) : ∃ c, W.heap[k]? = some (.cells c 5) := by
  rcases h.2 with ⟨rfl, _⟩ | ⟨g, cap, cur, rfl, _, hg, _⟩
  · cases hk
  · have e : g = k := Option.some.inj hk
    subst e
    exact ⟨cur, hg⟩
theorem own_typeL {W : World} {B n k : Nat} {v : Value} {xs : List Value} (h : W.ownsRow B 22 1 v n xs) (hk : v.ownBlock = some k) : ∃ c, W.heap[k]? = some (.cells c 22) := by
  rcases h.2 with ⟨rfl, _⟩ | ⟨g, cap, cur, rfl, _, hg, _⟩
  · cases hk
  · have e : g = k := Option.some.inj hk
    subst e
    exact ⟨cur, hg⟩
theorem types_ne {W : World} {B C n m : Nat} {v u : Value} {xs ys : List Value} (h : W.ownsRow B 5 1 v n xs) (h' : W.ownsRow C 22 1 u m ys) : v.ownBlock = none ∨ u.ownBlock ≠ v.ownBlock := by
  cases hv : v.ownBlock with
  | none => exact Or.inl rfl
  | some k =>
    refine Or.inr fun e => ?_
    obtain ⟨c, hc⟩ := own_type h hv
    obtain ⟨d, hd⟩ := own_typeL h' e
    rw [hc] at hd
    simp at hd
/-- A list of lists has grown. -/
theorem Fam.grown {B C m n : Nat} {x : Nat → Value} {nn : Nat → Nat} {ff : Nat → Nat → Nat} {W W' : World} {u : Value} {ys : List Value} (h : Fam B m x nn ff W) (hu : W.ownsRow C 22 1 u n ys) (hg : W.grownBy W' u.ownBlock) : Fam B m x nn ff W' :=
  ⟨fun t ht => (h.rows t ht).kept hg ((types_ne (h.rows t ht) hu).imp id fun e => fun q => e q.symm), h.dis⟩
theorem ownL_below {W W' : World} {B n : Nat} {v : Value} {xs : List Value} (h : W.ownsRow B 22 1 v n xs) (hb : Below W.heap.size W W') : W'.ownsRow B 22 1 v n xs := by
  refine ⟨h.1, ?_⟩
  rcases h.2 with h | ⟨g, cap, cur, e, hB, hg, h2⟩
  · exact Or.inl h
  · exact Or.inr ⟨g, cap, cur, e, hB, by rw [hb.block _ (Array.getElem?_eq_some_iff.1 hg).1]; exact hg, h2⟩
/-- The lists' values. -/
def xsL (x : Nat → Value) (o n : Nat) : List Value := (List.range n).map fun i => x (o + i)
theorem xsL_len (x : Nat → Value) (o n : Nat) : (xsL x o n).length = n := by simp [xsL]
theorem xsL_at (x : Nat → Value) (o : Nat) {n i : Nat} (h : i < n) : (xsL x o n)[i]? = some (x (o + i)) := by simp [xsL, h]
theorem xsL_app (x : Nat → Value) (o n m : Nat) : xsL x o n ++ xsL x (o + n) m = xsL x o (n + m) := by
  unfold xsL
  rw [List.range_add, List.map_append, List.map_map]
  congr 1
  apply List.map_congr_left
  intro i _
  show x (o + n + i) = x (o + (n + i))
  rw [Nat.add_assoc]
theorem xsL_congr {x y : Nat → Value} {o n : Nat} (h : ∀ t, t < o + n → x t = y t) : xsL x o n = xsL y o n := by
  unfold xsL
  apply List.map_congr_left
  intro i hi
  exact h _ (by have := List.mem_range.1 hi; omega)
/-- A list of lists of one's own, its cells. -/
theorem ownL_cells {W : World} {B n : Nat} {v : Value} {x : Nat → Value} {o : Nat} (h : W.ownsRow B 22 1 v n (xsL x o n)) (hn : 0 < n) : ∃ g cap, v = .slice (some ⟨g, 0, none⟩) n cap ∧ B ≤ g ∧ g < W.heap.size ∧ ∀ j, j < n → W.cell? ⟨g, j, none⟩ = some (x (o + j)) := by
  rcases h.2 with ⟨_, e⟩ | ⟨g, cap, cur, rfl, hB, hg, h1, h2, h3, ht⟩
  · omega
  · refine ⟨g, cap, rfl, hB, (Array.getElem?_eq_some_iff.1 hg).1, fun j hj => ?_⟩
    rw [cell_of_row _ _ _ _ _ _ hg]
    have h2 : (cur.toList.take (n * 1))[j]? = some (x (o + j)) := by rw [ht]; exact xsL_at x o hj
    rw [Nat.mul_one, List.getElem?_take, if_pos hj, Array.getElem?_toList] at h2
    exact h2
theorem ownL_at {W : World} {B n cap Lb : Nat} {x : Nat → Value} {o : Nat} (h : W.ownsRow B 22 1 (.slice (some ⟨Lb, 0, none⟩) n cap) n (xsL x o n)) {j : Nat} (hj : j < n) : W.cell? ⟨Lb, j, none⟩ = some (x (o + j)) := by
  obtain ⟨g, c, e, _, _, hc⟩ := ownL_cells h (by omega)
  injection e with e1
  injection e1 with e1
  injection e1 with e1
  subst e1
  exact hc j hj
theorem own_oneCell {W : World} {B n : Nat} {v : Value} {xs : List Value} (h : W.ownsRow B 5 1 v n xs) : v.oneCell' = true := by
  rcases h.2 with ⟨rfl, _⟩ | ⟨g, cap, cur, rfl, _⟩
  · rfl
  · rfl
section
variable {P : Program} (w : World)
/-- append to a list of lists of one's own; and where the answer lies. -/
theorem run_append_ownQ (base : Nat) (t ty e : TypeId) (i : TypeInfo) (z : Value) (ht : P.underlying t = some (.slice e)) (hi : P.info? e = some i) (hz : i.zero = some z)
    (hsize : i.size = 1) (hby : i.bytes = 24) (hzs : z.cells.size = 1)
    (v : Value) (n : Nat) (xs : List Value) (hown : w.ownsRow base e 1 v n xs)
    (a : Addr) (m c : Nat) (news : List Value) (hl : news.length = m) (hnews : ∀ j u, news[j]? = some u → w.cell? (a.add j) = some u) (h1 : ∀ u ∈ news, u.oneCell' = true)
    (hbytes : n + m ≤ 1000000000) (hbase : base ≤ w.heap.size) :
    ∃ v' w', (Builtin.append_ #[t, t] ty #[v, .slice (some a) m c]).run P w = .ok v' w' ∧ w'.ownsRow base e 1 v' (n + m) (xs ++ news) ∧ ((v'.ownBlock = v.ownBlock ∧ w.grownBy w' v.ownBlock) ∨ (v'.ownBlock = some w.heap.size ∧ w.grownBy w' none)) := by
  have h63 : n + m ≤ maxLen := by unfold maxLen; omega
  have hl' : news.length = m * i.size := by rw [hl, hsize, Nat.mul_one]
  have hxs : xs.length = n := by have := hown.1; omega
  have hxs' : xs.length = n * i.size := by rw [hxs, hsize, Nat.mul_one]
  have hlen : (xs ++ news).length = (n + m) * 1 := by rw [List.length_append, hxs, hl, Nat.mul_one]
  have grown : ∀ (old : Nat), old < n + m → ∀ (row : Option Nat),
      (w.drew.alloc (.cells (xs.toArray ++ news.toArray ++ Builtin.zeroCells z.cells (grownCap w (n + m) old e - (n + m))) e)).ownsRow base e 1
        (.slice (some ⟨w.heap.size, 0, none⟩) (n + m) (grownCap w (n + m) old e)) (n + m) (xs ++ news) ∧
      w.grownBy (w.drew.alloc (.cells (xs.toArray ++ news.toArray ++ Builtin.zeroCells z.cells (grownCap w (n + m) old e - (n + m))) e)) row := by
    intro old ho row
    have hge := grownCap_ge w (n + m) old e
    have hcm : grownCap w (n + m) old e ≤ maxLen := grownCap_le_maxLen w (n + m) old e h63
    refine ⟨⟨hlen, .inr ⟨w.heap.size, _, _, rfl, hbase, heap_alloc_new w.drew _, hge, hcm, ?_, ?_⟩⟩, ⟨rfl, rfl, rfl, by simp, fun k hk _ => Below.heap_alloc w.drew _ k hk⟩⟩
    · simp only [Array.size_append, List.size_toArray, size_zeroCells, hzs, hxs, hl]
      omega
    · simp only [Array.toList_append, List.append_assoc]
      rw [← List.append_assoc, ← hlen]
      exact List.take_left
  rcases hown.2 with ⟨rfl, rfl⟩ | ⟨g, cap, cur, rfl, hbg, hg, hnc, hcm, hcs, htake⟩
  · have hx : xs = [] := List.eq_nil_of_length_eq_zero hxs
    subst hx
    by_cases hm : m = 0
    · subst hm
      have hn : news = [] := List.eq_nil_of_length_eq_zero hl
      subst hn
      refine ⟨.slice none 0 0, w, ?_, World.ownsRow_nil w base e 1, .inl ⟨rfl, ⟨rfl, rfl, rfl, Nat.le_refl _, fun _ _ _ => rfl⟩⟩⟩
      simp [Builtin.append_, run_underlying ht, sizeOf, typeInfo, hi, Builtin.lenOf, Builtin.firstCells, loadCells, loadCellsFrom]
    · have hr := run_append_nil (P := P) w t ty e i z ht hi hz a m c news hl' hnews (by omega) (by omega) (by rw [hby]; omega)
      have hgr := grown 0 (by omega) none
      simp only [Nat.zero_add, List.nil_append, Array.empty_append] at hgr ⊢
      exact ⟨_, _, hr, hgr.1, .inr ⟨rfl, hgr.2⟩⟩
  · by_cases hroom : n + m ≤ cap
    · have hfit : n * i.size + news.length ≤ cur.size := by rw [hl, hcs, hsize, Nat.mul_one, Nat.mul_one]; exact hroom
      have hr := run_append_room (P := P) w t ty e i ht hi g n cap cur hg a m c news hl' hnews h1 hroom hfit
      rw [hsize, Nat.mul_one] at hr
      refine ⟨_, _, hr, ⟨hlen, .inr ⟨g, cap, _, rfl, hbg, setRow_heap w g cur _ e _ hg, hroom, hcm, ?_, ?_⟩⟩, .inl ⟨rfl, ⟨rfl, rfl, rfl, by simp, fun k _ hk => setRow_other w g k _ (fun e => hk (by simp [Value.ownBlock, e]))⟩⟩⟩
      · simp only [List.size_toArray, List.length_append, List.length_take, List.length_drop, Array.length_toList]
        omega
      · have ht2 : cur.toList.take n = xs := by rw [← htake, Nat.mul_one]
        rw [ht2, ← hlen]
        exact List.take_left
    · have holds : ∀ j u, xs[j]? = some u → w.cell? ((⟨g, 0, none⟩ : Addr).add j) = some u := hown.cells (g := g) rfl
      have hr := run_append_grow (P := P) w t ty e i z ht hi hz ⟨g, 0, none⟩ n cap xs hxs' holds a m c news hl' hnews (by omega) (by omega) (by rw [hby]; have := nextcap_le (need := n + m) (old := cap) (by omega); omega)
      have hgr := grown cap (by omega) none
      exact ⟨_, _, hr, hgr.1, .inr ⟨rfl, hgr.2⟩⟩
end
/-- append of m lists that were laid side by side to a list of lists. -/
theorem wpList_appL {ops : Array Oper} {rest : List Oper} {o : Oper} {a : Act} {W : World} {Q : Exit → Act → World → Prop} {B n m g b : Nat} {v : Value} {x : Nat → Value} {cs : Array Value} (hgd : o.guard = none) (s y : Operand)
    (ho : o.op = .call { callee := .builtin .append, args := #[s, y], argTypes := #[39, 39] }) (hs : a.eval s = v) (hy : a.eval y = .slice (some ⟨g, 0, none⟩) m m) (hown : W.ownsRow B 22 1 v n (xsL x b n)) (hg : W.heap[g]? = some (.cells cs 22)) (hcs : cs.toList = xsL x (b + n) m) (h1 : ∀ u ∈ cs.toList, u.oneCell' = true)
    (hbig : n + m ≤ 1000000000) (hB : B ≤ W.heap.size) (h : ∀ v' W', W'.ownsRow B 22 1 v' (n + m) (xsL x b (n + m)) → ((v'.ownBlock = v.ownBlock ∧ W.grownBy W' v.ownBlock) ∨ (v'.ownBlock = some W.heap.size ∧ W.grownBy W' none)) → wpList Tryz.prog ops Q rest (a.put o.dst v') W') : wpList Tryz.prog ops Q (o :: rest) a W :=
  wpList_plain hgd fun K hK => by
    obtain ⟨i, i1, i2, i3, i4⟩ := infoB
    obtain ⟨v', w', hr, q1, q2⟩ := run_append_ownQ (P := Tryz.prog) W B 39 o.type 22 i (.slice none 0 0) Tryz.underlying39 i1 i2 i3 i4 rfl v n (xsL x b n) hown ⟨g, 0, none⟩ m m (xsL x (b + n) m) (xsL_len _ _ _) (by
      intro j u hu
      rw [show (⟨g, 0, none⟩ : Addr).add j = ⟨g, 0 + j, none⟩ from by unfold Addr.add; split <;> simp_all, Nat.zero_add, cell_of_row _ _ _ _ _ _ hg, ← Array.getElem?_toList, hcs]
      exact hu) (by rw [← hcs]; exact h1) hbig hB
    rw [xsL_app] at q1
    unfold Oper.wp execOp
    simp only [ho, resolve, invoke, builtin, Sem.run_bind, Sem.run_pure, Result.andThen_ok, List.map_toArray, List.map_cons, List.map_nil, hs, hy, hr]
    exact hK _ _ (h v' w' q1 q2)
def capV (v : Value) : Nat := match v with | .slice _ _ c => c | _ => 0
section
variable {P : Program} (w : World)
theorem run_append_ownR (base : Nat) (t ty e : TypeId) (i : TypeInfo) (z : Value) (ht : P.underlying t = some (.slice e)) (hi : P.info? e = some i) (hz : i.zero = some z)
    (hsize : i.size = 1) (hby : i.bytes = 1) (hzs : z.cells.size = 1)
    (v : Value) (n : Nat) (xs : List Value) (hown : w.ownsRow base e 1 v n xs)
    (a : Addr) (m c : Nat) (news : List Value) (hl : news.length = m) (hnews : ∀ j u, news[j]? = some u → w.cell? (a.add j) = some u) (h1 : ∀ u ∈ news, u.oneCell' = true)
    (hbytes : n + m ≤ 200000000000000) (hbase : base ≤ w.heap.size) :
    ∃ v' w', (Builtin.append_ #[t, t] ty #[v, .slice (some a) m c]).run P w = .ok v' w' ∧ w'.ownsRow base e 1 v' (n + m) (xs ++ news) ∧ ((v'.ownBlock = v.ownBlock ∧ w.grownBy w' v.ownBlock ∧ capV v' = capV v) ∨ (v'.ownBlock = some w.heap.size ∧ w.grownBy w' none)) := by
  have h63 : n + m ≤ maxLen := by unfold maxLen; omega
  have hl' : news.length = m * i.size := by rw [hl, hsize, Nat.mul_one]
  have hxs : xs.length = n := by have := hown.1; omega
  have hxs' : xs.length = n * i.size := by rw [hxs, hsize, Nat.mul_one]
  have hlen : (xs ++ news).length = (n + m) * 1 := by rw [List.length_append, hxs, hl, Nat.mul_one]
  have grown : ∀ (old : Nat), old < n + m → ∀ (row : Option Nat),
      (w.drew.alloc (.cells (xs.toArray ++ news.toArray ++ Builtin.zeroCells z.cells (grownCap w (n + m) old e - (n + m))) e)).ownsRow base e 1
        (.slice (some ⟨w.heap.size, 0, none⟩) (n + m) (grownCap w (n + m) old e)) (n + m) (xs ++ news) ∧
      w.grownBy (w.drew.alloc (.cells (xs.toArray ++ news.toArray ++ Builtin.zeroCells z.cells (grownCap w (n + m) old e - (n + m))) e)) row := by
    intro old ho row
    have hge := grownCap_ge w (n + m) old e
    have hcm : grownCap w (n + m) old e ≤ maxLen := grownCap_le_maxLen w (n + m) old e h63
    refine ⟨⟨hlen, .inr ⟨w.heap.size, _, _, rfl, hbase, heap_alloc_new w.drew _, hge, hcm, ?_, ?_⟩⟩, ⟨rfl, rfl, rfl, by simp, fun k hk _ => Below.heap_alloc w.drew _ k hk⟩⟩
    · simp only [Array.size_append, List.size_toArray, size_zeroCells, hzs, hxs, hl]
      omega
    · simp only [Array.toList_append, List.append_assoc]
      rw [← List.append_assoc, ← hlen]
      exact List.take_left
  rcases hown.2 with ⟨rfl, rfl⟩ | ⟨g, cap, cur, rfl, hbg, hg, hnc, hcm, hcs, htake⟩
  · have hx : xs = [] := List.eq_nil_of_length_eq_zero hxs
    subst hx
    by_cases hm : m = 0
    · subst hm
      have hn : news = [] := List.eq_nil_of_length_eq_zero hl
      subst hn
      refine ⟨.slice none 0 0, w, ?_, World.ownsRow_nil w base e 1, .inl ⟨rfl, ⟨rfl, rfl, rfl, Nat.le_refl _, fun _ _ _ => rfl⟩, rfl⟩⟩
      simp [Builtin.append_, run_underlying ht, sizeOf, typeInfo, hi, Builtin.lenOf, Builtin.firstCells, loadCells, loadCellsFrom]
    · have hr := run_append_nil (P := P) w t ty e i z ht hi hz a m c news hl' hnews (by omega) (by omega) (by rw [hby]; omega)
      have hgr := grown 0 (by omega) none
      simp only [Nat.zero_add, List.nil_append, Array.empty_append] at hgr ⊢
      exact ⟨_, _, hr, hgr.1, .inr ⟨rfl, hgr.2⟩⟩
  · by_cases hroom : n + m ≤ cap
    · have hfit : n * i.size + news.length ≤ cur.size := by rw [hl, hcs, hsize, Nat.mul_one, Nat.mul_one]; exact hroom
      have hr := run_append_room (P := P) w t ty e i ht hi g n cap cur hg a m c news hl' hnews h1 hroom hfit
      rw [hsize, Nat.mul_one] at hr
      refine ⟨_, _, hr, ⟨hlen, .inr ⟨g, cap, _, rfl, hbg, setRow_heap w g cur _ e _ hg, hroom, hcm, ?_, ?_⟩⟩, .inl ⟨rfl, ⟨rfl, rfl, rfl, by simp, fun k _ hk => setRow_other w g k _ (fun e => hk (by simp [Value.ownBlock, e]))⟩, rfl⟩⟩
      · simp only [List.size_toArray, List.length_append, List.length_take, List.length_drop, Array.length_toList]
        omega
      · have ht2 : cur.toList.take n = xs := by rw [← htake, Nat.mul_one]
        rw [ht2, ← hlen]
        exact List.take_left
    · have holds : ∀ j u, xs[j]? = some u → w.cell? ((⟨g, 0, none⟩ : Addr).add j) = some u := hown.cells (g := g) rfl
      have hr := run_append_grow (P := P) w t ty e i z ht hi hz ⟨g, 0, none⟩ n cap xs hxs' holds a m c news hl' hnews (by omega) (by omega) (by rw [hby]; exact grow_fits (by omega) hbytes)
      have hgr := grown cap (by omega) none
      exact ⟨_, _, hr, hgr.1, .inr ⟨rfl, hgr.2⟩⟩
end
/-- append of one byte that the call laid: what stays, and where the answer lies. -/
theorem wpList_appR {ops : Array Oper} {rest : List Oper} {o : Oper} {a : Act} {W : World} {Q : Exit → Act → World → Prop} {B n g : Nat} {v : Value} {p : Nat → Nat} (hgd : o.guard = none) (s x : Operand)
    (ho : o.op = .call { callee := .builtin .append, args := #[s, x], argTypes := #[22, 22] })
    (hs : a.eval s = v) (hx : a.eval x = .slice (some ⟨g, 0, none⟩) 1 1) (hown : W.ownsRow B 5 1 v n (bytesL n p)) (hsrc : W.heap[g]? = some (.cells #[.int .u8 (p n)] 5))
    (hbig : n + 1 ≤ 200000000000000) (hB : B ≤ W.heap.size)
    (h : ∀ v' W', W'.ownsRow B 5 1 v' (n + 1) (bytesL (n + 1) p) → ((v'.ownBlock = v.ownBlock ∧ W.grownBy W' v.ownBlock ∧ capV v' = capV v) ∨ (v'.ownBlock = some W.heap.size ∧ W.grownBy W' none)) → wpList Tryz.prog ops Q rest (a.put o.dst v') W') : wpList Tryz.prog ops Q (o :: rest) a W :=
  wpList_plain hgd fun K hK => by
    obtain ⟨i, h1, h2, h3, h4⟩ := info5
    obtain ⟨v', w', hr, q1, q2⟩ := run_append_ownR (P := Tryz.prog) W B 22 o.type 5 i (.int .u8 0) Tryz.underlying22 h1 h2 h3 h4 rfl v n (bytesL n p) hown ⟨g, 0, none⟩ 1 1 [.int .u8 (p n)] rfl (by
      intro j u hu
      have hj : j = 0 := by have := (List.getElem?_eq_some_iff.1 hu).1; simpa using this
      subst hj
      rw [show (⟨g, 0, none⟩ : Addr).add 0 = ⟨g, 0, none⟩ from rfl, cell_of_row _ _ _ _ _ _ hsrc]
      simpa using hu) (by
      intro u hu
      simp only [List.mem_singleton] at hu
      subst hu
      rfl) hbig hB
    rw [bytesL_succ] at q1
    unfold Oper.wp execOp
    simp only [ho, resolve, invoke, builtin, Sem.run_bind, Sem.run_pure, Result.andThen_ok, List.map_toArray, List.map_cons, List.map_nil, hs, hx, hr]
    exact hK _ _ (h v' w' q1 q2)
theorem grown_row {W W' : World} {v v' : Value} (h : (v'.ownBlock = v.ownBlock ∧ W.grownBy W' v.ownBlock) ∨ (v'.ownBlock = some W.heap.size ∧ W.grownBy W' none)) : W.grownBy W' v.ownBlock := by
  rcases h with ⟨_, h⟩ | ⟨_, h⟩
  · exact h
  · exact ⟨h.os, h.tape, h.output, h.size, fun k hk _ => h.block k hk (by simp)⟩
/-- Row i, and what was appended to it. -/
def gRF (f : Nat → Nat) (n : Nat) : Nat → Nat := fun l => if l < n then f l else 238
/-- What lies in one block with a row of one's own has its room. -/
theorem own_cap {W : World} {B n k : Nat} {v : Value} {xs : List Value} (h : W.ownsRow B 5 1 v n xs) (hk : v.ownBlock = some k) : ∃ c, W.heap[k]? = some (.cells c 5) ∧ c.size = capV v ∧ v = .slice (some ⟨k, 0, none⟩) n (capV v) ∧ B ≤ k ∧ n ≤ capV v ∧ capV v ≤ maxLen ∧ c.toList.take n = xs := by
  rcases h.2 with ⟨rfl, _⟩ | ⟨g, cap, cur, rfl, hB, hg, h1, h2, h3, ht⟩
  · cases hk
  · have e : g = k := Option.some.inj hk
    subst e
    rw [Nat.mul_one] at h3 ht
    exact ⟨cur, hg, h3, rfl, hB, h1, h2, ht⟩
theorem Fam.grow {B m : Nat} {x : Nat → Value} {nn : Nat → Nat} {ff : Nat → Nat → Nat} {W W' : World} (h : Fam B m x nn ff W) {i k : Nat} (hi : i < m) {u v' : Value} (hu : W.ownsRow B 5 1 u (nn i + k) (bytesL (nn i + k) (gRF (ff i) (nn i)))) (pl : u.ownBlock = (x i).ownBlock ∨ ∀ t, t < m → Dis u (x t))
    (hv : W'.ownsRow B 5 1 v' (nn i + k + 1) (bytesL (nn i + k + 1) (gRF (ff i) (nn i)))) (hp : (v'.ownBlock = u.ownBlock ∧ W.grownBy W' u.ownBlock ∧ capV v' = capV u) ∨ (v'.ownBlock = some W.heap.size ∧ W.grownBy W' Option.none)) :
    Fam B m x nn ff W' ∧ (v'.ownBlock = (x i).ownBlock ∨ ∀ t, t < m → Dis v' (x t)) := by
  rcases hp with ⟨e, hg, hc⟩ | ⟨e, hg⟩
  · refine ⟨⟨fun t ht => ?_, h.dis⟩, ?_⟩
    · cases hq : (x t).ownBlock with
      | none => exact (h.rows t ht).kept hg (.inl hq)
      | some b =>
        by_cases hub : u.ownBlock = some b
        · have et : t = i := by
            rcases pl with pl | pl
            · rw [pl] at hub
              cases Nat.decEq t i with
              | isTrue h1 => exact h1
              | isFalse h1 => exact absurd hub (h.dis t i ht hi h1 b hq)
            · exact absurd hq (pl t ht b hub)
          subst et
          obtain ⟨c1, g1, s1, v1, B1, n1, m1, t1⟩ := own_cap (h.rows t ht) hq
          obtain ⟨c2, g2, s2, v2, _⟩ := own_cap hu hub
          obtain ⟨c3, g3, s3, v3, _, n3, m3, t3⟩ := own_cap hv (by rw [e]; exact hub)
          have ecap : capV (x t) = capV v' := by
            rw [g1] at g2
            have : c1 = c2 := by simpa using g2
            rw [hc, ← s1, ← s2, this]
          refine ⟨by rw [bytesL_len, Nat.mul_one], .inr ⟨b, capV (x t), c3, v1, B1, g3, n1, m1, by rw [Nat.mul_one, s3, ecap], ?_⟩⟩
          rw [Nat.mul_one]
          have h4 : c3.toList.take (nn t) = (c3.toList.take (nn t + k + 1)).take (nn t) := by rw [List.take_take, Nat.min_eq_left (by omega)]
          rw [h4, t3]
          unfold bytesL
          rw [← List.map_take, List.take_range, Nat.min_eq_left (by omega)]
          apply List.map_congr_left
          intro l hl
          have := List.mem_range.1 hl
          unfold gRF
          rw [if_pos this]
        · exact (h.rows t ht).kept hg (.inr fun q => hub (by rw [← q]; exact hq))
    · rcases pl with pl | pl
      · exact .inl (e.trans pl)
      · exact .inr fun t ht b hb => pl t ht b (by rw [← e]; exact hb)
  · refine ⟨⟨fun t ht => (h.rows t ht).kept hg (by cases (x t).ownBlock <;> simp), h.dis⟩, .inr fun t ht b hb q => ?_⟩
    rw [e] at hb
    have := Option.some.inj hb
    have := ((h.rows t ht).lt b q).2
    omega
theorem execIdxL {o : Oper} {a : Act} {w : World} {y i : Operand} {b n cap k : Nat} (ho : o.op = .indexAddr 39 y i) (hx : a.eval y = .slice (some ⟨b, 0, none⟩) n cap) (hi : a.eval i = .int .i64 (k : Int)) (hk : k < n) : (execOp a.eval o).run Tryz.prog w = .ok (.value (.pointer (some ⟨b, k, none⟩))) w := by
  have h1 : (k : Int) < n := by omega
  unfold execOp
  simp only [ho, hx, hi]
  simp [go_sem, h1]
theorem execLdL {o : Oper} {a : Act} {w : World} {y : Operand} {b f : Nat} {v : Value} (ho : o.op = .load 22 y) (hx : a.eval y = .pointer (some ⟨b, f, none⟩)) (hc : w.cell? ⟨b, f, none⟩ = some v) : (execOp a.eval o).run Tryz.prog w = .ok (.value v) w := by
  unfold execOp
  simp only [ho, hx]
  simp [go_sem, hc]
end Go.Proofs.YtplhkjkaabgffaaGreatDoor.Cel

namespace Go.Proofs.YtplhkjkaabgffaaGreatDoor.Cel
open Go.RowKit Gf8 Aes By8
/- Lists of their own, of any lengths, that are marked and grown apart. -/

/-- append of bytes, and the room that it leaves. -/
theorem wpList_appK {ops : Array Oper} {rest : List Oper} {o : Oper} {a : Act} {W : World} {Q : Exit → Act → World → Prop} {B n m g c : Nat} {v : Value} {p : Nat → Nat} (hgd : o.guard = none) (s x : Operand)
    (ho : o.op = .call { callee := .builtin .append, args := #[s, x], argTypes := #[22, 22] })
    (hs : a.eval s = v) (hx : a.eval x = .slice (some ⟨g, 0, none⟩) m c) (hown : W.ownsRow B 5 1 v n (bytesL n p)) (hsrc : ∀ j, j < m → W.cell? ⟨g, j, none⟩ = some (.int .u8 (p (n + j))))
    (hbig : n + m ≤ 200000000000000) (hB : B ≤ W.heap.size)
    (h : ∀ v' W', W'.ownsRow B 5 1 v' (n + m) (bytesL (n + m) p) → ((v'.ownBlock = v.ownBlock ∧ W.grownBy W' v.ownBlock ∧ capV v' = capV v) ∨ (v'.ownBlock = some W.heap.size ∧ W.grownBy W' none)) → wpList Tryz.prog ops Q rest (a.put o.dst v') W') : wpList Tryz.prog ops Q (o :: rest) a W :=
  wpList_plain hgd fun K hK => by
    obtain ⟨i, h1, h2, h3, h4⟩ := info5
    obtain ⟨v', w', hr, q1, q2⟩ := run_append_ownR (P := Tryz.prog) W B 22 o.type 5 i (.int .u8 0) Tryz.underlying22 h1 h2 h3 h4 rfl v n (bytesL n p) hown ⟨g, 0, none⟩ m c (bytesL m fun j => p (n + j)) (bytesL_len _ _) (by
      intro j u hu
      have hj : j < m := by have := (List.getElem?_eq_some_iff.1 hu).1; rw [bytesL_len] at this; exact this
      rw [Addr.add_mid, Nat.zero_add, hsrc j hj]
      rw [bytesL_at m _ hj] at hu
      exact hu) (bytesL_one _ _) hbig hB
    rw [bytesL_app] at q1
    unfold Oper.wp execOp
    simp only [ho, resolve, invoke, builtin, Sem.run_bind, Sem.run_pure, Result.andThen_ok, List.map_toArray, List.map_cons, List.map_nil, hs, hx, hr]
    exact hK _ _ (h v' w' q1 q2)
/-- Row t and what was appended to it. -/
def gM (f : Nat → Nat) (n z : Nat) : Nat → Nat := fun l => if l < n then f l else z
/-- m lists, the t-th of nn t bytes; what each has been grown to. -/
structure ApN (B m : Nat) (nn : Nat → Nat) (x : Nat → Value) (ff : Nat → Nat → Nat) (zz : Nat → Nat) (gv : Nat → Value) (gl : Nat → Nat) (W : World) : Prop where
  fam : Fam B m x nn ff W
  grown : ∀ t, t < m → W.ownsRow B 5 1 (gv t) (gl t) (bytesL (gl t) (gM (ff t) (nn t) (zz t)))
  le : ∀ t, t < m → nn t ≤ gl t
  at' : ∀ t, t < m → (gv t).ownBlock = (x t).ownBlock ∨ ∀ s, s < m → Dis (gv t) (x s)
  dis : ∀ s t, s < m → t < m → s ≠ t → Dis (gv s) (gv t)
theorem ApN.begin {B m : Nat} {nn : Nat → Nat} {x : Nat → Value} {ff : Nat → Nat → Nat} {zz : Nat → Nat} {W : World} (h : Fam B m x nn ff W) : ApN B m nn x ff zz x nn W :=
  ⟨h, fun t ht => by
    have e : bytesL (nn t) (gM (ff t) (nn t) (zz t)) = bytesL (nn t) (ff t) := bytesL_congr fun l hl => if_pos hl
    rw [e]
    exact h.rows t ht, fun _ _ => Nat.le_refl _, fun _ _ => Or.inl rfl, h.dis⟩
theorem ApN.on {B m : Nat} {nn : Nat → Nat} {x : Nat → Value} {ff : Nat → Nat → Nat} {zz : Nat → Nat} {gv : Nat → Value} {gl : Nat → Nat} {W W' : World} (h : ApN B m nn x ff zz gv gl W) (hb : Below W.heap.size W W') : ApN B m nn x ff zz gv gl W' :=
  ⟨h.fam.on hb, fun t ht => ownsRow_below (h.grown t ht) hb, h.le, h.at', h.dis⟩
/-- A cell of a list of lists is set: the bytes stay. -/
theorem ApN.cell {B m : Nat} {nn : Nat → Nat} {x : Nat → Value} {ff : Nat → Nat → Nat} {zz : Nat → Nat} {gv : Nat → Value} {gl : Nat → Nat} {W : World} {b k : Nat} {c : Array Value} {u : Value} (h : ApN B m nn x ff zz gv gl W) (hb : W.heap[b]? = some (.cells c 22)) : ApN B m nn x ff zz gv gl (W.setCell ⟨b, k, none⟩ u) :=
  ⟨⟨fun t ht => own_stays (h.fam.rows t ht) hb (fun e => own_ne (h.fam.rows t ht) hb (by decide) e.symm), h.fam.dis⟩, fun t ht => own_stays (h.grown t ht) hb (fun e => own_ne (h.grown t ht) hb (by decide) e.symm), h.le, h.at', h.dis⟩
/-- One of them has been grown. -/
theorem ApN.grow {B m : Nat} {nn : Nat → Nat} {x : Nat → Value} {ff : Nat → Nat → Nat} {zz : Nat → Nat} {gv : Nat → Value} {gl : Nat → Nat} {W W' : World} (h : ApN B m nn x ff zz gv gl W) {i k : Nat} (hi : i < m) {v' : Value}
    (hv : W'.ownsRow B 5 1 v' (gl i + k) (bytesL (gl i + k) (gM (ff i) (nn i) (zz i)))) (hp : (v'.ownBlock = (gv i).ownBlock ∧ W.grownBy W' (gv i).ownBlock ∧ capV v' = capV (gv i)) ∨ (v'.ownBlock = some W.heap.size ∧ W.grownBy W' Option.none)) :
    ApN B m nn x ff zz (updX gv i v') (fun t => if t = i then gl i + k else gl t) W' := by
  have hle := h.le i hi
  rcases hp with ⟨e, hg, hc⟩ | ⟨e, hg⟩
  · have keep : ∀ t, t < m → t ≠ i → W'.ownsRow B 5 1 (gv t) (gl t) (bytesL (gl t) (gM (ff t) (nn t) (zz t))) := fun t ht hne => by
      refine (h.grown t ht).kept hg ?_
      cases hq : (gv t).ownBlock with
      | none => exact Or.inl rfl
      | some b => exact Or.inr (fun q => h.dis t i ht hi hne b hq q.symm)
    refine ⟨⟨fun t ht => ?_, h.fam.dis⟩, fun t ht => ?_, fun t ht => ?_, fun t ht => ?_, fun s t hs ht hst => ?_⟩
    · cases hq : (x t).ownBlock with
      | none => exact (h.fam.rows t ht).kept hg (.inl hq)
      | some b =>
        by_cases hub : (gv i).ownBlock = some b
        · have et : t = i := by
            rcases h.at' i hi with pl | pl
            · rw [pl] at hub
              cases Nat.decEq t i with
              | isTrue h1 => exact h1
              | isFalse h1 => exact absurd hub (h.fam.dis t i ht hi h1 b hq)
            · exact absurd hq (pl t ht b hub)
          subst et
          obtain ⟨c1, g1, s1, v1, B1, n1, m1, t1⟩ := own_cap (h.fam.rows t ht) hq
          obtain ⟨c2, g2, s2, v2, _⟩ := own_cap (h.grown t ht) hub
          obtain ⟨c3, g3, s3, v3, _, n3, m3, t3⟩ := own_cap hv (by rw [e]; exact hub)
          have ecap : capV (x t) = capV v' := by
            rw [g1] at g2
            have : c1 = c2 := by simpa using g2
            rw [hc, ← s1, ← s2, this]
          refine ⟨by rw [bytesL_len, Nat.mul_one], .inr ⟨b, capV (x t), c3, v1, B1, g3, n1, m1, by rw [Nat.mul_one, s3, ecap], ?_⟩⟩
          rw [Nat.mul_one]
          have h4 : c3.toList.take (nn t) = (c3.toList.take (gl t + k)).take (nn t) := by rw [List.take_take, Nat.min_eq_left (by omega)]
          rw [h4, t3]
          unfold bytesL
          rw [← List.map_take, List.take_range, Nat.min_eq_left (by omega)]
          apply List.map_congr_left
          intro l hl
          have := List.mem_range.1 hl
          unfold gM
          rw [if_pos this]
        · exact (h.fam.rows t ht).kept hg (.inr fun q => hub (by rw [← q]; exact hq))
    · by_cases et : t = i
      · subst et
        rw [updX_at]
        simp only [if_true]
        exact hv
      · unfold updX
        simp only [if_neg et]
        exact keep t ht et
    · by_cases et : t = i
      · subst et; simp only [if_true]; omega
      · simp only [if_neg et]; exact h.le t ht
    · by_cases et : t = i
      · subst et
        rw [updX_at]
        rcases h.at' t ht with pl | pl
        · exact .inl (e.trans pl)
        · exact .inr fun s hs b hb => pl s hs b (by rw [← e]; exact hb)
      · unfold updX
        simp only [if_neg et]
        exact h.at' t ht
    · unfold updX
      by_cases e1 : s = i
      · have e2 : t ≠ i := fun q => hst (e1.trans q.symm)
        simp only [if_pos e1, if_neg e2]
        intro b hb
        exact h.dis i t hi ht (fun q => e2 q.symm) b (by rw [← e]; exact hb)
      · by_cases e2 : t = i
        · simp only [if_neg e1, if_pos e2]
          intro b hb hq
          exact h.dis s i hs hi e1 b hb (by rw [← e]; exact hq)
        · simp only [if_neg e1, if_neg e2]
          exact h.dis s t hs ht hst
  · have old : ∀ {v : Value} {n : Nat} {xs : List Value}, W.ownsRow B 5 1 v n xs → W'.ownsRow B 5 1 v n xs := fun {v} {n} {xs} hw => hw.kept hg (by cases v.ownBlock <;> simp)
    have new : ∀ {v : Value} {n : Nat} {xs : List Value}, W.ownsRow B 5 1 v n xs → Dis v' v := fun {v} {n} {xs} hw b hb q => by
      rw [e] at hb
      have := Option.some.inj hb
      have := (hw.lt b q).2
      omega
    refine ⟨⟨fun t ht => old (h.fam.rows t ht), h.fam.dis⟩, fun t ht => ?_, fun t ht => ?_, fun t ht => ?_, fun s t hs ht hst => ?_⟩
    · by_cases et : t = i
      · subst et
        rw [updX_at]
        simp only [if_true]
        exact hv
      · unfold updX
        simp only [if_neg et]
        exact old (h.grown t ht)
    · by_cases et : t = i
      · subst et; simp only [if_true]; omega
      · simp only [if_neg et]; exact h.le t ht
    · by_cases et : t = i
      · subst et
        rw [updX_at]
        exact .inr fun s hs => new (h.fam.rows s hs)
      · unfold updX
        simp only [if_neg et]
        exact h.at' t ht
    · unfold updX
      by_cases e1 : s = i
      · have e2 : t ≠ i := fun q => hst (e1.trans q.symm)
        simp only [if_pos e1, if_neg e2]
        exact new (h.grown t ht)
      · by_cases e2 : t = i
        · simp only [if_neg e1, if_pos e2]
          exact (new (h.grown s hs)).symm
        · simp only [if_neg e1, if_neg e2]
          exact h.dis s t hs ht hst

end Go.Proofs.YtplhkjkaabgffaaGreatDoor.Cel

namespace Go.Proofs.YtplhkjkaabgffaaGreatDoor.Cel
open Go.RowKit Gf8 Aes By8
/- append(s, make([]byte, m)...): one operation of the model. -/

section
variable {P : Program} (w : World)
theorem runMk_room (t u ty e : TypeId) (i : TypeInfo) (z : Value) (ht : P.underlying t = some (.slice e)) (hu : P.underlying u = some (.int .i64)) (hi : P.info? e = some i) (hz : i.zero = some z) (hsize : i.size = 1) (hby : i.bytes = 1)
    (g sLen sCap : Nat) (cur : Array Value) (hg : w.heap[g]? = some (.cells cur e (0, 0))) (m : Nat) (h0 : 0 < m) (hm : m ≤ 1000000) (news : List Value) (hn : (Builtin.zeroCells z.cells m).toList = news) (h1 : ∀ u ∈ news, u.oneCell' = true)
    (hroom : sLen + m ≤ sCap) (hfit : sLen + news.length ≤ cur.size) :
    (Builtin.append_ #[t, u] ty #[.slice (some ⟨g, 0, none⟩) sLen sCap, .int .i64 (m : Int)]).run P w =
      .ok (.slice (some ⟨g, 0, none⟩) (sLen + m) sCap) (w.setRow g (cur.toList.take sLen ++ news ++ cur.toList.drop (sLen + news.length)).toArray) := by
  have hst := run_storeCells_at P g sLen e news 0 cur w hg (by simpa using hfit) h1
  simp only [Nat.add_zero] at hst
  have e1 : IntKind.i64.wrap (m : Int) = m := wrap_i64_nat (by omega)
  have e2 : ¬ ((m : Int) < 0) := by omega
  have e3 : ¬ (281474976710656 < (m : Int)) := by omega
  have e4 : m ≠ 0 := by omega
  subst hn
  simp [Builtin.append_, run_underlying ht, run_underlying hu, sizeOf, typeInfo, zeroValue, hi, hz, hsize, hby, asInt, asIntOf, e1, e2, e3, e4, hroom, Addr.add_lit, hst]
theorem runMk_grow (t u ty e : TypeId) (i : TypeInfo) (z : Value) (ht : P.underlying t = some (.slice e)) (hu : P.underlying u = some (.int .i64)) (hi : P.info? e = some i) (hz : i.zero = some z) (hsize : i.size = 1) (hby : i.bytes = 1)
    (b : Addr) (sLen sCap : Nat) (olds : List Value) (hlo : olds.length = sLen * i.size) (holds : ∀ j v, olds[j]? = some v → w.cell? (b.add j) = some v) (m : Nat) (h0 : 0 < m) (hm : m ≤ 1000000)
    (hg : sCap < sLen + m) (h63 : ((sLen + m : Nat) : Int) ≤ 9223372036854775807) (hfit : Builtin.nextslicecap (sLen + m) sCap * i.bytes ≤ 281474976710656) :
    (Builtin.append_ #[t, u] ty #[.slice (some b) sLen sCap, .int .i64 (m : Int)]).run P w =
      .ok (.slice (some ⟨w.heap.size, 0, none⟩) (sLen + m) (grownCap w (sLen + m) sCap e))
        (w.drew.alloc (.cells (olds.toArray ++ Builtin.zeroCells z.cells m ++ Builtin.zeroCells z.cells (grownCap w (sLen + m) sCap e - (sLen + m))) e)) := by
  have e1 : IntKind.i64.wrap (m : Int) = m := wrap_i64_nat (by omega)
  have e2 : ¬ ((m : Int) < 0) := by omega
  have e3 : ¬ (281474976710656 < (m : Int)) := by omega
  have e4 : m ≠ 0 := by omega
  have e6 : max (m : Int) 0 = m := by omega
  have hn : ¬ (sLen + m ≤ sCap) := by omega
  have h63' : ¬ (9223372036854775807 < ((sLen : Int) + (m : Int))) := by omega
  have h48' : ¬ (281474976710656 < Builtin.nextslicecap (sLen + m) sCap * i.bytes) := by omega
  rw [hby, Nat.mul_one] at h48'
  have hfo := run_firstCells_some (P := P) w.drew i.size sLen b sLen sCap olds hlo (by simpa using holds)
  rw [hsize] at hfo
  simp [Builtin.append_, run_underlying ht, run_underlying hu, sizeOf, typeInfo, zeroValue, hi, hz, hsize, hby, asInt, asIntOf, e1, e2, e3, e4, e6, hn, h63', h48', Question.forced, hfo, newRow, grownCap]
end
theorem zeros_bytes (m : Nat) : (Builtin.zeroCells (Value.int .u8 0).cells m).toList = bytesL m (fun _ => 0) := by
  apply List.ext_getElem?
  intro j
  by_cases h : j < m
  · rw [bytesL_at m _ h]
    simp [Builtin.zeroCells, Value.cells, h, Nat.mod_one]
  · have l1 : (Builtin.zeroCells (Value.int .u8 0).cells m).toList.length = m := by rw [Array.length_toList, size_zeroCells]; simp [Value.cells]
    have l2 : (bytesL m fun _ => 0).length = m := bytesL_len _ _
    rw [List.getElem?_eq_none (by omega), List.getElem?_eq_none (by omega)]
theorem wpList_appMk {ops : Array Oper} {rest : List Oper} {o : Oper} {a : Act} {W : World} {Q : Exit → Act → World → Prop} {B n m : Nat} {v : Value} {p : Nat → Nat} (hgd : o.guard = none) (s x : Operand)
    (ho : o.op = .call { callee := .builtin .append, args := #[s, x], argTypes := #[22, 3] })
    (hs : a.eval s = v) (hx : a.eval x = .int .i64 (m : Int)) (hown : W.ownsRow B 5 1 v n (bytesL n p)) (hz : ∀ j, j < m → p (n + j) = 0) (hn : 0 < n) (h0 : 0 < m) (hm : m ≤ 1000000) (hbig : n + m ≤ 200000000000000) (hB : B ≤ W.heap.size)
    (h : ∀ v' W', W'.ownsRow B 5 1 v' (n + m) (bytesL (n + m) p) → ((v'.ownBlock = v.ownBlock ∧ W.grownBy W' v.ownBlock) ∨ (v'.ownBlock = some W.heap.size ∧ W.grownBy W' none)) → wpList Tryz.prog ops Q rest (a.put o.dst v') W') : wpList Tryz.prog ops Q (o :: rest) a W := by
  obtain ⟨i, i1, i2, i3, i4⟩ := info5
  have en : (Builtin.zeroCells (Value.int .u8 0).cells m).toList = bytesL m (fun j => p (n + j)) := by
    rw [zeros_bytes]
    exact bytesL_congr fun j hj => (hz j hj).symm
  have ea : Builtin.zeroCells (Value.int .u8 0).cells m = (bytesL m (fun j => p (n + j))).toArray := by rw [← en]
  refine wpList_plain hgd fun K hK => ?_
  have key : ∃ v' w', (Builtin.append_ #[22, 3] o.type #[v, .int .i64 (m : Int)]).run Tryz.prog W = .ok v' w' ∧ w'.ownsRow B 5 1 v' (n + m) (bytesL (n + m) p) ∧ ((v'.ownBlock = v.ownBlock ∧ W.grownBy w' v.ownBlock) ∨ (v'.ownBlock = some W.heap.size ∧ W.grownBy w' none)) := by
    have hlen : (bytesL (n + m) p).length = (n + m) * 1 := by rw [bytesL_len, Nat.mul_one]
    rcases hown.2 with ⟨rfl, rfl⟩ | ⟨g, cap, cur, rfl, hbg, hg, hnc, hcm, hcs, htake⟩
    · omega
    · by_cases hroom : n + m ≤ cap
      · have hr := runMk_room (P := Tryz.prog) W 22 3 o.type 5 i (.int .u8 0) Tryz.underlying22 Tryz.underlying3 i1 i2 i3 i4 g n cap cur hg m h0 hm _ en (bytesL_one _ _) hroom (by rw [bytesL_len]; omega)
        refine ⟨_, _, hr, ⟨hlen, .inr ⟨g, cap, _, rfl, hbg, setRow_heap W g cur _ 5 _ hg, hroom, hcm, ?_, ?_⟩⟩, .inl ⟨rfl, ⟨rfl, rfl, rfl, by simp, fun k _ hk => setRow_other W g k _ (fun e => hk (by simp [Value.ownBlock, e]))⟩⟩⟩
        · simp only [List.size_toArray, List.length_append, List.length_take, List.length_drop, Array.length_toList, bytesL_len]
          omega
        · have ht2 : cur.toList.take n = bytesL n p := by rw [← htake, Nat.mul_one]
          rw [ht2, bytesL_app, ← hlen]
          exact List.take_left
      · have holds : ∀ j u, (bytesL n p)[j]? = some u → W.cell? ((⟨g, 0, none⟩ : Addr).add j) = some u := hown.cells (g := g) rfl
        have hr := runMk_grow (P := Tryz.prog) W 22 3 o.type 5 i (.int .u8 0) Tryz.underlying22 Tryz.underlying3 i1 i2 i3 i4 ⟨g, 0, none⟩ n cap (bytesL n p) (by rw [bytesL_len, i3, Nat.mul_one]) holds m h0 hm (by omega) (by omega) (by rw [i4]; exact grow_fits (by omega) hbig)
        have hge := grownCap_ge W (n + m) cap 5
        have hcm2 : grownCap W (n + m) cap 5 ≤ maxLen := grownCap_le_maxLen W (n + m) cap 5 (by unfold maxLen; omega)
        refine ⟨_, _, hr, ⟨hlen, .inr ⟨W.heap.size, _, _, rfl, hB, heap_alloc_new W.drew _, hge, hcm2, ?_, ?_⟩⟩, .inr ⟨rfl, ⟨rfl, rfl, rfl, by simp, fun k hk _ => Below.heap_alloc W.drew _ k hk⟩⟩⟩
        · simp only [Array.size_append, List.size_toArray, size_zeroCells, bytesL_len]
          simp [Value.cells]
          omega
        · rw [ea]
          simp only [Array.toList_append, List.append_assoc]
          rw [← List.append_assoc, bytesL_app, ← hlen]
          exact List.take_left
  obtain ⟨v', w', hr, q1, q2⟩ := key
  unfold Oper.wp execOp
  simp only [ho, resolve, invoke, builtin, Sem.run_bind, Sem.run_pure, Result.andThen_ok, List.map_toArray, List.map_cons, List.map_nil, hs, hx, hr]
  exact hK _ _ (h v' w' q1 q2)
end Go.Proofs.YtplhkjkaabgffaaGreatDoor.Cel
