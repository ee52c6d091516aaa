import Derived.Test.YtldhhfkplongiaaY3
import Derived.Test.YtldhhfkplongiaaY0
import Derived.Test.YtldhhfkplongiaaF0
import Derived.Laws.AppendOwnNone
namespace Go.Proofs.Ytldhhfkplongiaa.By8
open Go.RowKit

section
variable {P : Program} (w : World)
/-- append to a row of bytes of one's own, up to 2 * 10^14 of them; and where the answer lies. -/
theorem run_append_ownP (base : Nat) (t ty e : TypeId) (i : TypeInfo) (z : Value) (ht : P.underlying t = some (.slice e)) (hi : P.info? e = some i) (hz : i.zero = some z)
    (hsize : i.size = 1) (hby : i.bytes = 1) (hzs : z.cells.size = 1)
    (v : Value) (n : Nat) (xs : List Value) (hown : w.ownsRow base e 1 v n xs)
    (a : Addr) (m c : Nat) (news : List Value) (hl : news.length = m) (hnews : ∀ j u, news[j]? = some u → w.cell? (a.add j) = some u) (h1 : ∀ u ∈ news, u.oneCell' = true)
    (hbytes : n + m ≤ 200000000000000) (hbase : base ≤ w.heap.size) :
    ∃ v' w', (Builtin.append_ #[t, t] ty #[v, .slice (some a) m c]).run P w = .ok v' w' ∧ w'.ownsRow base e 1 v' (n + m) (xs ++ news) ∧ ((v'.ownBlock = v.ownBlock ∧ w.grownBy w' v.ownBlock) ∨ (v'.ownBlock = some w.heap.size ∧ w.grownBy w' none)) := by
  have h63 : n + m ≤ maxLen := by unfold maxLen; omega
  have hl' : news.length = m * i.size := by rw [hl, hsize, Nat.mul_one]
  have hxs : xs.length = n := by have := hown.1; omega
  have hxs' : xs.length = n * i.size := by rw [hxs, hsize, Nat.mul_one]
  have hlen : (xs ++ news).length = (n + m) * 1 := by rw [List.length_append, hxs, hl, Nat.mul_one]
  have grown : ∀ (old : Nat), old < n + m → ∀ (row : Option Nat),
      (w.drew.alloc (.cells (xs.toArray ++ news.toArray ++ Builtin.zeroCells z.cells (grownCap w (n + m) old e - (n + m))) e)).ownsRow base e 1
        (.slice (some ⟨w.heap.size, 0, none⟩) (n + m) (grownCap w (n + m) old e)) (n + m) (xs ++ news) ∧
      w.grownBy (w.drew.alloc (.cells (xs.toArray ++ news.toArray ++ Builtin.zeroCells z.cells (grownCap w (n + m) old e - (n + m))) e)) row := by
    intro old ho row
    have hge := grownCap_ge w (n + m) old e
    have hcm : grownCap w (n + m) old e ≤ maxLen := grownCap_le_maxLen w (n + m) old e h63
    refine ⟨⟨hlen, .inr ⟨w.heap.size, _, _, rfl, hbase, heap_alloc_new w.drew _, hge, hcm, ?_, ?_⟩⟩, ⟨rfl, rfl, rfl, by simp, fun k hk _ => Below.heap_alloc w.drew _ k hk⟩⟩
    · simp only [Array.size_append, List.size_toArray, size_zeroCells, hzs, hxs, hl]
      omega
    · simp only [Array.toList_append, List.append_assoc]
      rw [← List.append_assoc, ← hlen]
      exact List.take_left
  rcases hown.2 with ⟨rfl, rfl⟩ | ⟨g, cap, cur, rfl, hbg, hg, hnc, hcm, hcs, htake⟩
  · have hx : xs = [] := List.eq_nil_of_length_eq_zero hxs
    subst hx
    by_cases hm : m = 0
    · subst hm
      have hn : news = [] := List.eq_nil_of_length_eq_zero hl
      subst hn
      refine ⟨.slice none 0 0, w, ?_, World.ownsRow_nil w base e 1, .inl ⟨rfl, ⟨rfl, rfl, rfl, Nat.le_refl _, fun _ _ _ => rfl⟩⟩⟩
      simp [Builtin.append_, run_underlying ht, sizeOf, typeInfo, hi, Builtin.lenOf, Builtin.firstCells, loadCells, loadCellsFrom]
    · have hr := run_append_nil (P := P) w t ty e i z ht hi hz a m c news hl' hnews (by omega) (by omega) (by rw [hby]; omega)
      have hgr := grown 0 (by omega) none
      simp only [Nat.zero_add, List.nil_append, Array.empty_append] at hgr ⊢
      exact ⟨_, _, hr, hgr.1, .inr ⟨rfl, hgr.2⟩⟩
  · by_cases hroom : n + m ≤ cap
    · have hfit : n * i.size + news.length ≤ cur.size := by rw [hl, hcs, hsize, Nat.mul_one, Nat.mul_one]; exact hroom
      have hr := run_append_room (P := P) w t ty e i ht hi g n cap cur hg a m c news hl' hnews h1 hroom hfit
      rw [hsize, Nat.mul_one] at hr
      refine ⟨_, _, hr, ⟨hlen, .inr ⟨g, cap, _, rfl, hbg, setRow_heap w g cur _ e _ hg, hroom, hcm, ?_, ?_⟩⟩, .inl ⟨rfl, ⟨rfl, rfl, rfl, by simp, fun k _ hk => setRow_other w g k _ (fun e => hk (by simp [Value.ownBlock, e]))⟩⟩⟩
      · simp only [List.size_toArray, List.length_append, List.length_take, List.length_drop, Array.length_toList]
        omega
      · have ht2 : cur.toList.take n = xs := by rw [← htake, Nat.mul_one]
        rw [ht2, ← hlen]
        exact List.take_left
    · have holds : ∀ j u, xs[j]? = some u → w.cell? ((⟨g, 0, none⟩ : Addr).add j) = some u := hown.cells (g := g) rfl
      have hr := run_append_grow (P := P) w t ty e i z ht hi hz ⟨g, 0, none⟩ n cap xs hxs' holds a m c news hl' hnews (by omega) (by omega) (by rw [hby]; exact grow_fits (by omega) hbytes)
      have hgr := grown cap (by omega) none
      exact ⟨_, _, hr, hgr.1, .inr ⟨rfl, hgr.2⟩⟩
end
theorem bytesL_app (p : Nat → Nat) (n m : Nat) : bytesL n p ++ bytesL m (fun j => p (n + j)) = bytesL (n + m) p := by
  unfold bytesL
  rw [List.range_add, List.map_append, List.map_map]
  rfl
/-- A byte of a row of one's own is set. -/
theorem own_set {W : World} {B n g cap m : Nat} {p : Nat → Nat} (z : Nat) (h : W.ownsRow B 5 1 (.slice (some ⟨g, 0, none⟩) n cap) n (bytesL n p)) :
    (W.setCell ⟨g, m, none⟩ (.int .u8 z)).ownsRow B 5 1 (.slice (some ⟨g, 0, none⟩) n cap) n (bytesL n fun j => if j = m then z else p j) := by
  obtain ⟨h0, h1⟩ := h
  rcases h1 with ⟨e, _⟩ | ⟨g', cap', cur, e, hB, hg, hnc, hcm, hcs, ht⟩
  · cases e
  · injection e with e1 _ e3
    injection e1 with e1
    injection e1 with e1 _ _
    subst e1 e3
    refine ⟨by rw [bytesL_len]; omega, .inr ⟨g, cap, cur.setIfInBounds m (.int .u8 z), rfl, hB, ?_, hnc, hcm, by simpa using hcs, ?_⟩⟩
    · rw [setCell_eq_setRow W g m cur 5 _ _ hg]; exact setRow_heap _ _ _ _ _ _ hg
    · have key : ∀ j, j < n → cur.toList[j]? = some (.int .u8 (p j)) := fun j hj => by
        have e := congrArg (fun l => l[j]?) ht
        simp only [bytesL_at n p hj] at e
        rw [List.getElem?_take, if_pos (by omega)] at e
        exact e
      apply List.ext_getElem?
      intro j
      by_cases hj : j < n
      · rw [bytesL_at n _ hj, List.getElem?_take, if_pos (by omega), Array.toList_setIfInBounds, List.getElem?_set]
        by_cases hjm : m = j
        · subst hjm
          have lc := (List.getElem?_eq_some_iff.1 (key m hj)).1
          rw [if_pos rfl, if_pos (by omega), if_pos rfl]
        · rw [if_neg hjm, key j hj, if_neg (fun e => hjm e.symm)]
      · rw [List.getElem?_eq_none (by rw [List.length_take]; omega), List.getElem?_eq_none (by rw [bytesL_len]; omega)]
end Go.Proofs.Ytldhhfkplongiaa.By8
namespace Go.Proofs.Ytldhhfkplongiaa.Aes
open Go.RowKit Gf8 By8
theorem sliceN_cg {W : World} {v : Value} {len : Nat} {p q : Nat → Nat} (h : SliceN W v len p) (e : ∀ j, j < len → p j = q j) : SliceN W v len q := by
  obtain ⟨⟨a, cap, rfl, h1, h2, h3⟩, hp⟩ := h
  refine ⟨⟨a, cap, rfl, h1, h2, fun h0 => ?_⟩, fun j hj => by rw [← e j hj]; exact hp j hj⟩
  obtain ⟨b, off, e1, e2, e3⟩ := h3 h0
  exact ⟨b, off, e1, e2, fun j hj => by rw [← e j hj]; exact e3 j hj⟩
theorem sliced_0 (F len cap : Nat) : sliced (some ⟨F, 0, none⟩) 0 len cap 1 = .slice (some ⟨F, 0, none⟩) len cap := by
  unfold sliced
  by_cases h : cap = 0
  · rw [if_pos h]; rfl
  · rw [if_neg h]
    simp [Addr.add]
theorem own_shapeJ {W : World} {B n : Nat} {v : Value} {xs : List Value} (h : W.ownsRow B 5 1 v n xs) : ∃ ao cap, v = .slice ao n cap := by
  rcases h.2 with ⟨rfl, rfl⟩ | ⟨g, cap, cur, rfl, _⟩
  · exact ⟨_, _, rfl⟩
  · exact ⟨_, _, rfl⟩
/-- Two lists that share no row. -/
def Dis (u v : Value) : Prop := ∀ k, u.ownBlock = some k → v.ownBlock ≠ some k
theorem Dis.symm {u v : Value} (h : Dis u v) : Dis v u := fun k h1 h2 => h k h2 h1
theorem own_base {W : World} {B C n : Nat} {v : Value} {xs : List Value} (h : W.ownsRow C 5 1 v n xs) (hB : B ≤ C) : W.ownsRow B 5 1 v n xs := by
  refine ⟨h.1, ?_⟩
  rcases h.2 with h | ⟨g, cap, cur, e, hC, h2⟩
  · exact Or.inl h
  · exact Or.inr ⟨g, cap, cur, e, Nat.le_trans hB hC, h2⟩
theorem dis_new {W W' : World} {B n m : Nat} {u r : Value} {xs ys : List Value} (h : W.ownsRow B 5 1 u n xs) (h' : W'.ownsRow W.heap.size 5 1 r m ys) : Dis u r := by
  intro k hk hr
  have h1 := (h.lt k hk).2
  have h2 := (h'.lt k hr).1
  omega
theorem own_off {W : World} {B n F k : Nat} {v : Value} {xs : List Value} (h : W.ownsRow B 5 1 v n xs) (hF : F < B) (z : Value) : (W.setCell ⟨F, k, none⟩ z).ownsRow B 5 1 v n xs := by
  refine ⟨h.1, ?_⟩
  rcases h.2 with h | ⟨g, cap, cur, e, hB, hg, h2⟩
  · exact Or.inl h
  · exact Or.inr ⟨g, cap, cur, e, hB, by rw [Below.heap_setCell _ _ _ _ (by show g ≠ F; omega)]; exact hg, h2⟩
theorem below_grown {B : Nat} {W4 W W' : World} {v v' : Value} {n : Nat} {xs : List Value} (hb : Below B W4 W) (hB : B ≤ W.heap.size) (hown : W.ownsRow B 5 1 v n xs) (h : (v'.ownBlock = v.ownBlock ∧ W.grownBy W' v.ownBlock) ∨ (v'.ownBlock = some W.heap.size ∧ W.grownBy W' none)) : Below B W4 W' := by
  rcases h with ⟨_, g⟩ | ⟨_, g⟩
  · exact hb.grown g hB (fun k hk => (hown.lt k hk).1)
  · exact hb.grown g hB (fun k hk => by cases hk)
theorem own_none (W : World) (q : Nat → Nat) : (W.alloc (.cells #[] 5)).ownsRow W.heap.size 5 1 (.slice (some ⟨W.heap.size, 0, none⟩) 0 0) 0 (bytesL 0 q) := own_made W (n := 0) (Nat.le_refl _) (by omega)
end Go.Proofs.Ytldhhfkplongiaa.Aes
