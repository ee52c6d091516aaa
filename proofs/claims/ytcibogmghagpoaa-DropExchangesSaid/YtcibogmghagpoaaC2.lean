import Derived.Test.YtcibogmghagpoaaL3
import Derived.Test.YtcibogmghagpoaaY6a
namespace Go.Proofs.Ytcibogmghagpoaa.Cel
open Go.RowKit Gf8 Aes By8
/- CellKeeps: rows of one's own, many side by side; lists of lists. -/

/-- m rows of bytes, each of its own, no two of one block. -/
structure Fam (B m : Nat) (x : Nat → Value) (nn : Nat → Nat) (ff : Nat → Nat → Nat) (W : World) : Prop where
  rows : ∀ t, t < m → W.ownsRow B 5 1 (x t) (nn t) (bytesL (nn t) (ff t))
  dis : ∀ s t, s < m → t < m → s ≠ t → Dis (x s) (x t)
theorem Fam.none (B : Nat) (x : Nat → Value) (nn : Nat → Nat) (ff : Nat → Nat → Nat) (W : World) : Fam B 0 x nn ff W := ⟨fun t h => by omega, fun s t h => by omega⟩
theorem Fam.on {B m : Nat} {x : Nat → Value} {nn : Nat → Nat} {ff : Nat → Nat → Nat} {W W' : World} (h : Fam B m x nn ff W) (hb : Below W.heap.size W W') : Fam B m x nn ff W' := ⟨fun t ht => ownsRow_below (h.rows t ht) hb, h.dis⟩
def updX (x : Nat → Value) (m : Nat) (r : Value) : Nat → Value := fun t => if t = m then r else x t
theorem updX_at (x : Nat → Value) (m : Nat) (r : Value) : updX x m r m = r := if_pos rfl
theorem updX_lt (x : Nat → Value) {m t : Nat} (r : Value) (h : t < m) : updX x m r t = x t := if_neg (by omega)
/-- One more, made behind all that lay. -/
theorem Fam.add {B m : Nat} {x : Nat → Value} {nn : Nat → Nat} {ff : Nat → Nat → Nat} {W W' : World} (h : Fam B m x nn ff W) (hb : Below W.heap.size W W') (hB : B ≤ W.heap.size) {r : Value} (hr : W'.ownsRow W.heap.size 5 1 r (nn m) (bytesL (nn m) (ff m))) : Fam B (m + 1) (updX x m r) nn ff W' := by
  refine ⟨fun t ht => ?_, fun s t hs ht hst => ?_⟩
  · by_cases e : t = m
    · subst e; rw [updX_at]; exact own_base hr hB
    · rw [updX_lt _ _ (by omega)]; exact ownsRow_below (h.rows t (by omega)) hb
  · by_cases e : t = m
    · subst e
      rw [updX_at, updX_lt _ _ (by omega)]
      exact dis_new (h.rows s (by omega)) hr
    · rw [updX_lt x r (show t < m by omega)]
      by_cases e2 : s = m
      · subst e2
        rw [updX_at]
        exact (dis_new (h.rows t (by omega)) hr).symm
      · rw [updX_lt _ _ (by omega)]
        exact h.dis s t (by omega) (by omega) hst
/-- A row of bytes lies in a block of bytes. -/
theorem own_type {W : World} {B n k : Nat} {v : Value} {xs : List Value} (h : W.ownsRow B 5 1 v n xs) (hk : v.ownBlock = some k) : ∃ c, W.heap[k]? = some (.cells c 5) := by
  rcases h.2 with ⟨rfl, _⟩ | ⟨g, cap, cur, rfl, _, hg, _⟩
  · cases hk
  · have e : g = k := Option.some.inj hk
    subst e
    exact ⟨cur, hg⟩
theorem own_typeL {W : World} {B n k : Nat} {v : Value} {xs : List Value} (h : W.ownsRow B 23 1 v n xs) (hk : v.ownBlock = some k) : ∃ c, W.heap[k]? = some (.cells c 23) := by
  rcases h.2 with ⟨rfl, _⟩ | ⟨g, cap, cur, rfl, _, hg, _⟩
  · cases hk
  · have e : g = k := Option.some.inj hk
    subst e
    exact ⟨cur, hg⟩
theorem types_ne {W : World} {B C n m : Nat} {v u : Value} {xs ys : List Value} (h : W.ownsRow B 5 1 v n xs) (h' : W.ownsRow C 23 1 u m ys) : v.ownBlock = none ∨ u.ownBlock ≠ v.ownBlock := by
  cases hv : v.ownBlock with
  | none => exact Or.inl rfl
  | some k =>
    refine Or.inr fun e => ?_
    obtain ⟨c, hc⟩ := own_type h hv
    obtain ⟨d, hd⟩ := own_typeL h' e
    rw [hc] at hd
    simp at hd
/-- A list of lists has grown. -/
theorem Fam.grown {B C m n : Nat} {x : Nat → Value} {nn : Nat → Nat} {ff : Nat → Nat → Nat} {W W' : World} {u : Value} {ys : List Value} (h : Fam B m x nn ff W) (hu : W.ownsRow C 23 1 u n ys) (hg : W.grownBy W' u.ownBlock) : Fam B m x nn ff W' :=
  ⟨fun t ht => (h.rows t ht).kept hg ((types_ne (h.rows t ht) hu).imp id fun e => fun q => e q.symm), h.dis⟩
section
variable {P : Program} (w : World)
end
def capV (v : Value) : Nat := match v with | .slice _ _ c => c | _ => 0
section
variable {P : Program} (w : World)
theorem run_append_ownR (base : Nat) (t ty e : TypeId) (i : TypeInfo) (z : Value) (ht : P.underlying t = some (.slice e)) (hi : P.info? e = some i) (hz : i.zero = some z)
    (hsize : i.size = 1) (hby : i.bytes = 1) (hzs : z.cells.size = 1)
    (v : Value) (n : Nat) (xs : List Value) (hown : w.ownsRow base e 1 v n xs)
    (a : Addr) (m c : Nat) (news : List Value) (hl : news.length = m) (hnews : ∀ j u, news[j]? = some u → w.cell? (a.add j) = some u) (h1 : ∀ u ∈ news, u.oneCell' = true)
    (hbytes : n + m ≤ 200000000000000) (hbase : base ≤ w.heap.size) :
    ∃ v' w', (Builtin.append_ #[t, t] ty #[v, .slice (some a) m c]).run P w = .ok v' w' ∧ w'.ownsRow base e 1 v' (n + m) (xs ++ news) ∧ ((v'.ownBlock = v.ownBlock ∧ w.grownBy w' v.ownBlock ∧ capV v' = capV v) ∨ (v'.ownBlock = some w.heap.size ∧ w.grownBy w' none)) := by
  have h63 : n + m ≤ maxLen := by unfold maxLen; omega
  have hl' : news.length = m * i.size := by rw [hl, hsize, Nat.mul_one]
  have hxs : xs.length = n := by have := hown.1; omega
  have hxs' : xs.length = n * i.size := by rw [hxs, hsize, Nat.mul_one]
  have hlen : (xs ++ news).length = (n + m) * 1 := by rw [List.length_append, hxs, hl, Nat.mul_one]
  have grown : ∀ (old : Nat), old < n + m → ∀ (row : Option Nat),
      (w.drew.alloc (.cells (xs.toArray ++ news.toArray ++ Builtin.zeroCells z.cells (grownCap w (n + m) old e - (n + m))) e)).ownsRow base e 1
        (.slice (some ⟨w.heap.size, 0, none⟩) (n + m) (grownCap w (n + m) old e)) (n + m) (xs ++ news) ∧
      w.grownBy (w.drew.alloc (.cells (xs.toArray ++ news.toArray ++ Builtin.zeroCells z.cells (grownCap w (n + m) old e - (n + m))) e)) row := by
    intro old ho row
    have hge := grownCap_ge w (n + m) old e
    have hcm : grownCap w (n + m) old e ≤ maxLen := grownCap_le_maxLen w (n + m) old e h63
    refine ⟨⟨hlen, .inr ⟨w.heap.size, _, _, rfl, hbase, heap_alloc_new w.drew _, hge, hcm, ?_, ?_⟩⟩, ⟨rfl, rfl, rfl, by simp, fun k hk _ => Below.heap_alloc w.drew _ k hk⟩⟩
    · simp only [Array.size_append, List.size_toArray, size_zeroCells, hzs, hxs, hl]
      omega
    · simp only [Array.toList_append, List.append_assoc]
      rw [← List.append_assoc, ← hlen]
      exact List.take_left
  rcases hown.2 with ⟨rfl, rfl⟩ | ⟨g, cap, cur, rfl, hbg, hg, hnc, hcm, hcs, htake⟩
  · have hx : xs = [] := List.eq_nil_of_length_eq_zero hxs
    subst hx
    by_cases hm : m = 0
    · subst hm
      have hn : news = [] := List.eq_nil_of_length_eq_zero hl
      subst hn
      refine ⟨.slice none 0 0, w, ?_, World.ownsRow_nil w base e 1, .inl ⟨rfl, ⟨rfl, rfl, rfl, Nat.le_refl _, fun _ _ _ => rfl⟩, rfl⟩⟩
      simp [Builtin.append_, run_underlying ht, sizeOf, typeInfo, hi, Builtin.lenOf, Builtin.firstCells, loadCells, loadCellsFrom]
    · have hr := run_append_nil (P := P) w t ty e i z ht hi hz a m c news hl' hnews (by omega) (by omega) (by rw [hby]; omega)
      have hgr := grown 0 (by omega) none
      simp only [Nat.zero_add, List.nil_append, Array.empty_append] at hgr ⊢
      exact ⟨_, _, hr, hgr.1, .inr ⟨rfl, hgr.2⟩⟩
  · by_cases hroom : n + m ≤ cap
    · have hfit : n * i.size + news.length ≤ cur.size := by rw [hl, hcs, hsize, Nat.mul_one, Nat.mul_one]; exact hroom
      have hr := run_append_room (P := P) w t ty e i ht hi g n cap cur hg a m c news hl' hnews h1 hroom hfit
      rw [hsize, Nat.mul_one] at hr
      refine ⟨_, _, hr, ⟨hlen, .inr ⟨g, cap, _, rfl, hbg, setRow_heap w g cur _ e _ hg, hroom, hcm, ?_, ?_⟩⟩, .inl ⟨rfl, ⟨rfl, rfl, rfl, by simp, fun k _ hk => setRow_other w g k _ (fun e => hk (by simp [Value.ownBlock, e]))⟩, rfl⟩⟩
      · simp only [List.size_toArray, List.length_append, List.length_take, List.length_drop, Array.length_toList]
        omega
      · have ht2 : cur.toList.take n = xs := by rw [← htake, Nat.mul_one]
        rw [ht2, ← hlen]
        exact List.take_left
    · have holds : ∀ j u, xs[j]? = some u → w.cell? ((⟨g, 0, none⟩ : Addr).add j) = some u := hown.cells (g := g) rfl
      have hr := run_append_grow (P := P) w t ty e i z ht hi hz ⟨g, 0, none⟩ n cap xs hxs' holds a m c news hl' hnews (by omega) (by omega) (by rw [hby]; exact grow_fits (by omega) hbytes)
      have hgr := grown cap (by omega) none
      exact ⟨_, _, hr, hgr.1, .inr ⟨rfl, hgr.2⟩⟩
end
/-- Row i, and what was appended to it. -/
def gRF (f : Nat → Nat) (n : Nat) : Nat → Nat := fun l => if l < n then f l else 238
/-- What lies in one block with a row of one's own has its room. -/
theorem own_cap {W : World} {B n k : Nat} {v : Value} {xs : List Value} (h : W.ownsRow B 5 1 v n xs) (hk : v.ownBlock = some k) : ∃ c, W.heap[k]? = some (.cells c 5) ∧ c.size = capV v ∧ v = .slice (some ⟨k, 0, none⟩) n (capV v) ∧ B ≤ k ∧ n ≤ capV v ∧ capV v ≤ maxLen ∧ c.toList.take n = xs := by
  rcases h.2 with ⟨rfl, _⟩ | ⟨g, cap, cur, rfl, hB, hg, h1, h2, h3, ht⟩
  · cases hk
  · have e : g = k := Option.some.inj hk
    subst e
    rw [Nat.mul_one] at h3 ht
    exact ⟨cur, hg, h3, rfl, hB, h1, h2, ht⟩
theorem Fam.grow {B m : Nat} {x : Nat → Value} {nn : Nat → Nat} {ff : Nat → Nat → Nat} {W W' : World} (h : Fam B m x nn ff W) {i k : Nat} (hi : i < m) {u v' : Value} (hu : W.ownsRow B 5 1 u (nn i + k) (bytesL (nn i + k) (gRF (ff i) (nn i)))) (pl : u.ownBlock = (x i).ownBlock ∨ ∀ t, t < m → Dis u (x t))
    (hv : W'.ownsRow B 5 1 v' (nn i + k + 1) (bytesL (nn i + k + 1) (gRF (ff i) (nn i)))) (hp : (v'.ownBlock = u.ownBlock ∧ W.grownBy W' u.ownBlock ∧ capV v' = capV u) ∨ (v'.ownBlock = some W.heap.size ∧ W.grownBy W' Option.none)) :
    Fam B m x nn ff W' ∧ (v'.ownBlock = (x i).ownBlock ∨ ∀ t, t < m → Dis v' (x t)) := by
  rcases hp with ⟨e, hg, hc⟩ | ⟨e, hg⟩
  · refine ⟨⟨fun t ht => ?_, h.dis⟩, ?_⟩
    · cases hq : (x t).ownBlock with
      | none => exact (h.rows t ht).kept hg (.inl hq)
      | some b =>
        by_cases hub : u.ownBlock = some b
        · have et : t = i := by
            rcases pl with pl | pl
            · rw [pl] at hub
              cases Nat.decEq t i with
              | isTrue h1 => exact h1
              | isFalse h1 => exact absurd hub (h.dis t i ht hi h1 b hq)
            · exact absurd hq (pl t ht b hub)
          subst et
          obtain ⟨c1, g1, s1, v1, B1, n1, m1, t1⟩ := own_cap (h.rows t ht) hq
          obtain ⟨c2, g2, s2, v2, _⟩ := own_cap hu hub
          obtain ⟨c3, g3, s3, v3, _, n3, m3, t3⟩ := own_cap hv (by rw [e]; exact hub)
          have ecap : capV (x t) = capV v' := by
            rw [g1] at g2
            have : c1 = c2 := by simpa using g2
            rw [hc, ← s1, ← s2, this]
          refine ⟨by rw [bytesL_len, Nat.mul_one], .inr ⟨b, capV (x t), c3, v1, B1, g3, n1, m1, by rw [Nat.mul_one, s3, ecap], ?_⟩⟩
          rw [Nat.mul_one]
          have h4 : c3.toList.take (nn t) = (c3.toList.take (nn t + k + 1)).take (nn t) := by rw [List.take_take, Nat.min_eq_left (by omega)]
          rw [h4, t3]
          unfold bytesL
          rw [← List.map_take, List.take_range, Nat.min_eq_left (by omega)]
          apply List.map_congr_left
          intro l hl
          have := List.mem_range.1 hl
          unfold gRF
          rw [if_pos this]
        · exact (h.rows t ht).kept hg (.inr fun q => hub (by rw [← q]; exact hq))
    · rcases pl with pl | pl
      · exact .inl (e.trans pl)
      · exact .inr fun t ht b hb => pl t ht b (by rw [← e]; exact hb)
  · refine ⟨⟨fun t ht => (h.rows t ht).kept hg (by cases (x t).ownBlock <;> simp), h.dis⟩, .inr fun t ht b hb q => ?_⟩
    rw [e] at hb
    have := Option.some.inj hb
    have := ((h.rows t ht).lt b q).2
    omega
theorem execIdxL {o : Oper} {a : Act} {w : World} {y i : Operand} {b n cap k : Nat} (ho : o.op = .indexAddr 29 y i) (hx : a.eval y = .slice (some ⟨b, 0, none⟩) n cap) (hi : a.eval i = .int .i64 (k : Int)) (hk : k < n) : (execOp a.eval o).run Try.prog w = .ok (.value (.pointer (some ⟨b, k, none⟩))) w := by
  have h1 : (k : Int) < n := by omega
  unfold execOp
  simp only [ho, hx, hi]
  simp [go_sem, h1]
theorem execLdL {o : Oper} {a : Act} {w : World} {y : Operand} {b f : Nat} {v : Value} (ho : o.op = .load 23 y) (hx : a.eval y = .pointer (some ⟨b, f, none⟩)) (hc : w.cell? ⟨b, f, none⟩ = some v) : (execOp a.eval o).run Try.prog w = .ok (.value v) w := by
  unfold execOp
  simp only [ho, hx]
  simp [go_sem, hc]
end Go.Proofs.Ytcibogmghagpoaa.Cel
