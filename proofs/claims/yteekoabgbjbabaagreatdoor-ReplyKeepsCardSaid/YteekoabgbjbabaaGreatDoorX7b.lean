import Derived.WalkKit
import Derived.Laws.AppendOwn
import Derived.Test.YteekoabgbjbabaaGreatDoorY3
import Derived.Laws.AppendOwnNone
namespace Go.Proofs.YteekoabgbjbabaaGreatDoor
open Go.RowKit

theorem nextcap_le {need old : Nat} (h : old < need) : Builtin.nextslicecap need old ≤ need + need / 4 + 1000 := by
  unfold Builtin.nextslicecap
  split
  · omega
  · split
    · omega
    · rw [growBy_four]
      repeat' split
      all_goals omega
theorem grow_fits {need old : Nat} (h : old < need) (hb : need ≤ 200000000000000) : Builtin.nextslicecap need old * 1 ≤ 281474976710656 := by
  have h1 := nextcap_le h
  omega

section
variable {P : Program} (w : World)
/-- append to a row of bytes of one's own, up to 2 * 10^14 of them. -/
theorem run_append_ownL (base : Nat) (t ty e : TypeId) (i : TypeInfo) (z : Value) (ht : P.underlying t = some (.slice e)) (hi : P.info? e = some i) (hz : i.zero = some z)
    (hsize : i.size = 1) (hby : i.bytes = 1) (hzs : z.cells.size = 1)
    (v : Value) (n : Nat) (xs : List Value) (hown : w.ownsRow base e 1 v n xs)
    (a : Addr) (m c : Nat) (news : List Value) (hl : news.length = m) (hnews : ∀ j u, news[j]? = some u → w.cell? (a.add j) = some u) (h1 : ∀ u ∈ news, u.oneCell' = true)
    (hbytes : n + m ≤ 200000000000000) (hbase : base ≤ w.heap.size) :
    ∃ v' w', (Builtin.append_ #[t, t] ty #[v, .slice (some a) m c]).run P w = .ok v' w' ∧ w'.ownsRow base e 1 v' (n + m) (xs ++ news) ∧ w.grownBy w' v.ownBlock := by
  have h63 : n + m ≤ maxLen := by unfold maxLen; omega
  have hl' : news.length = m * i.size := by rw [hl, hsize, Nat.mul_one]
  have hxs : xs.length = n := by have := hown.1; omega
  have hxs' : xs.length = n * i.size := by rw [hxs, hsize, Nat.mul_one]
  have hlen : (xs ++ news).length = (n + m) * 1 := by rw [List.length_append, hxs, hl, Nat.mul_one]
  have grown : ∀ (old : Nat), old < n + m → ∀ (row : Option Nat),
      (w.drew.alloc (.cells (xs.toArray ++ news.toArray ++ Builtin.zeroCells z.cells (grownCap w (n + m) old e - (n + m))) e)).ownsRow base e 1
        (.slice (some ⟨w.heap.size, 0, none⟩) (n + m) (grownCap w (n + m) old e)) (n + m) (xs ++ news) ∧
      w.grownBy (w.drew.alloc (.cells (xs.toArray ++ news.toArray ++ Builtin.zeroCells z.cells (grownCap w (n + m) old e - (n + m))) e)) row := by
    intro old ho row
    have hge := grownCap_ge w (n + m) old e
    have hcm : grownCap w (n + m) old e ≤ maxLen := grownCap_le_maxLen w (n + m) old e h63
    refine ⟨⟨hlen, .inr ⟨w.heap.size, _, _, rfl, hbase, heap_alloc_new w.drew _, hge, hcm, ?_, ?_⟩⟩, ⟨rfl, rfl, rfl, by simp, fun k hk _ => Below.heap_alloc w.drew _ k hk⟩⟩
    · simp only [Array.size_append, List.size_toArray, size_zeroCells, hzs, hxs, hl]
      omega
    · simp only [Array.toList_append, List.append_assoc]
      rw [← List.append_assoc, ← hlen]
      exact List.take_left
  rcases hown.2 with ⟨rfl, rfl⟩ | ⟨g, cap, cur, rfl, hbg, hg, hnc, hcm, hcs, htake⟩
  · have hx : xs = [] := List.eq_nil_of_length_eq_zero hxs
    subst hx
    by_cases hm : m = 0
    · subst hm
      have hn : news = [] := List.eq_nil_of_length_eq_zero hl
      subst hn
      refine ⟨.slice none 0 0, w, ?_, World.ownsRow_nil w base e 1, ⟨rfl, rfl, rfl, Nat.le_refl _, fun _ _ _ => rfl⟩⟩
      simp [Builtin.append_, run_underlying ht, sizeOf, typeInfo, hi, Builtin.lenOf, Builtin.firstCells, loadCells, loadCellsFrom]
    · have hr := run_append_nil (P := P) w t ty e i z ht hi hz a m c news hl' hnews (by omega) (by omega) (by rw [hby]; omega)
      have hgr := grown 0 (by omega) (Value.ownBlock (.slice none 0 0))
      simp only [Nat.zero_add, List.nil_append, Array.empty_append] at hgr ⊢
      exact ⟨_, _, hr, hgr.1, hgr.2⟩
  · by_cases hroom : n + m ≤ cap
    · have hfit : n * i.size + news.length ≤ cur.size := by rw [hl, hcs, hsize, Nat.mul_one, Nat.mul_one]; exact hroom
      have hr := run_append_room (P := P) w t ty e i ht hi g n cap cur hg a m c news hl' hnews h1 hroom hfit
      rw [hsize, Nat.mul_one] at hr
      refine ⟨_, _, hr, ⟨hlen, .inr ⟨g, cap, _, rfl, hbg, setRow_heap w g cur _ e _ hg, hroom, hcm, ?_, ?_⟩⟩, ⟨rfl, rfl, rfl, by simp, fun k _ hk => setRow_other w g k _ (fun e => hk (by simp [Value.ownBlock, e]))⟩⟩
      · simp only [List.size_toArray, List.length_append, List.length_take, List.length_drop, Array.length_toList]
        omega
      · have ht2 : cur.toList.take n = xs := by rw [← htake, Nat.mul_one]
        rw [ht2, ← hlen]
        exact List.take_left
    · have holds : ∀ j u, xs[j]? = some u → w.cell? ((⟨g, 0, none⟩ : Addr).add j) = some u := hown.cells (g := g) rfl
      have hr := run_append_grow (P := P) w t ty e i z ht hi hz ⟨g, 0, none⟩ n cap xs hxs' holds a m c news hl' hnews (by omega) (by omega) (by rw [hby]; exact grow_fits (by omega) hbytes)
      have hgr := grown cap (by omega) (Value.ownBlock (.slice (some ⟨g, 0, none⟩) n cap))
      exact ⟨_, _, hr, hgr.1, hgr.2⟩
theorem wpList_append_ownL {ops : Array Oper} {rest : List Oper} {o : Oper} {a : Act} {Q : Exit → Act → World → Prop} (hgd : o.guard = none) (s x : Operand) (t : TypeId)
    (ho : o.op = .call { callee := .builtin .append, args := #[s, x], argTypes := #[t, t] })
    (base : Nat) (e : TypeId) (i : TypeInfo) (z : Value) (ht : P.underlying t = some (.slice e)) (hi : P.info? e = some i) (hz : i.zero = some z)
    (hsize : i.size = 1) (hby : i.bytes = 1) (hzs : z.cells.size = 1)
    (v : Value) (n : Nat) (xs : List Value) (hs : a.eval s = v) (hown : w.ownsRow base e 1 v n xs)
    (ad : Addr) (m c : Nat) (news : List Value) (hx : a.eval x = .slice (some ad) m c) (hl : news.length = m) (hnews : ∀ j u, news[j]? = some u → w.cell? (ad.add j) = some u) (h1 : ∀ u ∈ news, u.oneCell' = true)
    (hbytes : n + m ≤ 200000000000000) (hbase : base ≤ w.heap.size)
    (h : ∀ v' w', w'.ownsRow base e 1 v' (n + m) (xs ++ news) → w.grownBy w' v.ownBlock → wpList P ops Q rest (a.put o.dst v') w') : wpList P ops Q (o :: rest) a w :=
  wpList_plain hgd fun K hK => by
    obtain ⟨v', w', hr, h2, h3⟩ := run_append_ownL (P := P) w base t o.type e i z ht hi hz hsize hby hzs v n xs hown ad m c news hl hnews h1 hbytes hbase
    unfold Oper.wp execOp
    simp only [ho, resolve, invoke, builtin, Sem.run_bind, Sem.run_pure, Result.andThen_ok, List.map_toArray, List.map_cons, List.map_nil, hs, hx, hr]
    exact hK _ _ (h v' w' h2 h3)
end
end Go.Proofs.YteekoabgbjbabaaGreatDoor

namespace Go.Proofs.YteekoabgbjbabaaGreatDoor.By8
open Go.RowKit

section
variable {P : Program} (w : World)
/-- append to a row of bytes of one's own, up to 2 * 10^14 of them; and where the answer lies. -/
theorem run_append_ownP (base : Nat) (t ty e : TypeId) (i : TypeInfo) (z : Value) (ht : P.underlying t = some (.slice e)) (hi : P.info? e = some i) (hz : i.zero = some z)
    (hsize : i.size = 1) (hby : i.bytes = 1) (hzs : z.cells.size = 1)
    (v : Value) (n : Nat) (xs : List Value) (hown : w.ownsRow base e 1 v n xs)
    (a : Addr) (m c : Nat) (news : List Value) (hl : news.length = m) (hnews : ∀ j u, news[j]? = some u → w.cell? (a.add j) = some u) (h1 : ∀ u ∈ news, u.oneCell' = true)
    (hbytes : n + m ≤ 200000000000000) (hbase : base ≤ w.heap.size) :
    ∃ v' w', (Builtin.append_ #[t, t] ty #[v, .slice (some a) m c]).run P w = .ok v' w' ∧ w'.ownsRow base e 1 v' (n + m) (xs ++ news) ∧ ((v'.ownBlock = v.ownBlock ∧ w.grownBy w' v.ownBlock) ∨ (v'.ownBlock = some w.heap.size ∧ w.grownBy w' none)) := by
  have h63 : n + m ≤ maxLen := by unfold maxLen; omega
  have hl' : news.length = m * i.size := by rw [hl, hsize, Nat.mul_one]
  have hxs : xs.length = n := by have := hown.1; omega
  have hxs' : xs.length = n * i.size := by rw [hxs, hsize, Nat.mul_one]
  have hlen : (xs ++ news).length = (n + m) * 1 := by rw [List.length_append, hxs, hl, Nat.mul_one]
  have grown : ∀ (old : Nat), old < n + m → ∀ (row : Option Nat),
      (w.drew.alloc (.cells (xs.toArray ++ news.toArray ++ Builtin.zeroCells z.cells (grownCap w (n + m) old e - (n + m))) e)).ownsRow base e 1
        (.slice (some ⟨w.heap.size, 0, none⟩) (n + m) (grownCap w (n + m) old e)) (n + m) (xs ++ news) ∧
      w.grownBy (w.drew.alloc (.cells (xs.toArray ++ news.toArray ++ Builtin.zeroCells z.cells (grownCap w (n + m) old e - (n + m))) e)) row := by
    intro old ho row
    have hge := grownCap_ge w (n + m) old e
    have hcm : grownCap w (n + m) old e ≤ maxLen := grownCap_le_maxLen w (n + m) old e h63
    refine ⟨⟨hlen, .inr ⟨w.heap.size, _, _, rfl, hbase, heap_alloc_new w.drew _, hge, hcm, ?_, ?_⟩⟩, ⟨rfl, rfl, rfl, by simp, fun k hk _ => Below.heap_alloc w.drew _ k hk⟩⟩
    · simp only [Array.size_append, List.size_toArray, size_zeroCells, hzs, hxs, hl]
      omega
    · simp only [Array.toList_append, List.append_assoc]
      rw [← List.append_assoc, ← hlen]
      exact List.take_left
  rcases hown.2 with ⟨rfl, rfl⟩ | ⟨g, cap, cur, rfl, hbg, hg, hnc, hcm, hcs, htake⟩
  · have hx : xs = [] := List.eq_nil_of_length_eq_zero hxs
    subst hx
    by_cases hm : m = 0
    · subst hm
      have hn : news = [] := List.eq_nil_of_length_eq_zero hl
      subst hn
      refine ⟨.slice none 0 0, w, ?_, World.ownsRow_nil w base e 1, .inl ⟨rfl, ⟨rfl, rfl, rfl, Nat.le_refl _, fun _ _ _ => rfl⟩⟩⟩
      simp [Builtin.append_, run_underlying ht, sizeOf, typeInfo, hi, Builtin.lenOf, Builtin.firstCells, loadCells, loadCellsFrom]
    · have hr := run_append_nil (P := P) w t ty e i z ht hi hz a m c news hl' hnews (by omega) (by omega) (by rw [hby]; omega)
      have hgr := grown 0 (by omega) none
      simp only [Nat.zero_add, List.nil_append, Array.empty_append] at hgr ⊢
      exact ⟨_, _, hr, hgr.1, .inr ⟨rfl, hgr.2⟩⟩
  · by_cases hroom : n + m ≤ cap
    · have hfit : n * i.size + news.length ≤ cur.size := by rw [hl, hcs, hsize, Nat.mul_one, Nat.mul_one]; exact hroom
      have hr := run_append_room (P := P) w t ty e i ht hi g n cap cur hg a m c news hl' hnews h1 hroom hfit
      rw [hsize, Nat.mul_one] at hr
      refine ⟨_, _, hr, ⟨hlen, .inr ⟨g, cap, _, rfl, hbg, setRow_heap w g cur _ e _ hg, hroom, hcm, ?_, ?_⟩⟩, .inl ⟨rfl, ⟨rfl, rfl, rfl, by simp, fun k _ hk => setRow_other w g k _ (fun e => hk (by simp [Value.ownBlock, e]))⟩⟩⟩
      · simp only [List.size_toArray, List.length_append, List.length_take, List.length_drop, Array.length_toList]
        omega
      · have ht2 : cur.toList.take n = xs := by rw [← htake, Nat.mul_one]
        rw [ht2, ← hlen]
        exact List.take_left
    · have holds : ∀ j u, xs[j]? = some u → w.cell? ((⟨g, 0, none⟩ : Addr).add j) = some u := hown.cells (g := g) rfl
      have hr := run_append_grow (P := P) w t ty e i z ht hi hz ⟨g, 0, none⟩ n cap xs hxs' holds a m c news hl' hnews (by omega) (by omega) (by rw [hby]; exact grow_fits (by omega) hbytes)
      have hgr := grown cap (by omega) none
      exact ⟨_, _, hr, hgr.1, .inr ⟨rfl, hgr.2⟩⟩
end
theorem bytesL_app (p : Nat → Nat) (n m : Nat) : bytesL n p ++ bytesL m (fun j => p (n + j)) = bytesL (n + m) p := by
  unfold bytesL
  rw [List.range_add, List.map_append, List.map_map]
  rfl
set_option maxRecDepth 20000 in
/-- append of a list of bytes, whatever it is. -/
theorem wpList_appS {ops : Array Oper} {rest : List Oper} {o : Oper} {a : Act} {W : World} {Q : Exit → Act → World → Prop} {B n m : Nat} {v u : Value} {p : Nat → Nat} (hgd : o.guard = none) (s x : Operand)
    (ho : o.op = .call { callee := .builtin .append, args := #[s, x], argTypes := #[24, 24] })
    (hs : a.eval s = v) (hx : a.eval x = u) (hown : W.ownsRow B 5 1 v n (bytesL n p)) (hu : SliceN W u m (fun j => p (n + j))) (hnil : ∀ l c, u = .slice none l c → c = 0)
    (hbig : n + m ≤ 200000000000000) (hB : B ≤ W.heap.size)
    (h : ∀ v' W', W'.ownsRow B 5 1 v' (n + m) (bytesL (n + m) p) → ((v'.ownBlock = v.ownBlock ∧ W.grownBy W' v.ownBlock) ∨ (v'.ownBlock = some W.heap.size ∧ W.grownBy W' none)) → wpList Tryz.prog ops Q rest (a.put o.dst v') W') : wpList Tryz.prog ops Q (o :: rest) a W := by
  obtain ⟨i, h1, h2, h3, h4⟩ := info5
  obtain ⟨⟨ao, cap, rfl, _, _, hc⟩, _⟩ := hu
  cases ao with
  | none =>
    have hm : m = 0 := by
      rcases Nat.eq_zero_or_pos m with e | e
      · exact e
      · obtain ⟨_, _, e', _⟩ := hc e
        cases e'
    subst hm
    have hcap := hnil _ _ rfl
    subst hcap
    refine wpList_append_own_none hgd s x 24 ho B 5 i 1 Tryz.underlying24 h1 v n (bytesL n p) hs hown hx ?_
    exact h v W hown (.inl ⟨rfl, ⟨rfl, rfl, rfl, Nat.le_refl _, fun _ _ _ => rfl⟩⟩)
  | some ad =>
    refine wpList_plain hgd fun K hK => ?_
    obtain ⟨v', w', hr, q1, q2⟩ := run_append_ownP (P := Tryz.prog) W B 24 o.type 5 i (.int .u8 0) Tryz.underlying24 h1 h2 h3 h4 rfl v n (bytesL n p) hown ad m cap (bytesL m fun j => p (n + j)) (bytesL_len _ _) (by
      intro j z hz
      have hj : j < m := by have := (List.getElem?_eq_some_iff.1 hz).1; rw [bytesL_len] at this; exact this
      obtain ⟨b, off, e, _, e3⟩ := hc (by omega)
      injection e with e
      subst e
      rw [Go.WideShapes.add_plain, e3 j hj]
      rw [bytesL_at m _ hj] at hz
      exact hz) (by
      intro z hz
      unfold bytesL at hz
      obtain ⟨k, _, rfl⟩ := List.mem_map.1 hz
      rfl) hbig hB
    rw [bytesL_app] at q1
    unfold Oper.wp execOp
    simp only [ho, resolve, invoke, builtin, Sem.run_bind, Sem.run_pure, Result.andThen_ok, List.map_toArray, List.map_cons, List.map_nil, hs, hx, hr]
    exact hK _ _ (h v' w' q1 q2)
end Go.Proofs.YteekoabgbjbabaaGreatDoor.By8
namespace Go.Proofs.YteekoabgbjbabaaGreatDoor.Aes
open Go.RowKit Gf8 By8
theorem sliceN_cg {W : World} {v : Value} {len : Nat} {p q : Nat → Nat} (h : SliceN W v len p) (e : ∀ j, j < len → p j = q j) : SliceN W v len q := by
  obtain ⟨⟨a, cap, rfl, h1, h2, h3⟩, hp⟩ := h
  refine ⟨⟨a, cap, rfl, h1, h2, fun h0 => ?_⟩, fun j hj => by rw [← e j hj]; exact hp j hj⟩
  obtain ⟨b, off, e1, e2, e3⟩ := h3 h0
  exact ⟨b, off, e1, e2, fun j hj => by rw [← e j hj]; exact e3 j hj⟩
theorem execLenV {o : Oper} {a : Act} {w : World} {x : Operand} {v : Value} {len : Nat} (ho : o.op = .call { callee := .builtin .len, args := #[x], argTypes := #[24] }) (hx : a.eval x = v) (hv : ∃ ao c, v = .slice ao len c) : (execOp a.eval o).run Tryz.prog w = .ok (.value (.int .i64 (len : Int))) w := by
  obtain ⟨ao, c, rfl⟩ := hv
  unfold execOp
  simp only [ho, resolve, invoke, builtin, Sem.run_bind, Sem.run_pure, Result.andThen_ok, List.map_toArray, List.map_cons, List.map_nil, hx]
  simp [go_sem]
theorem sliced_0 (F len cap : Nat) : sliced (some ⟨F, 0, none⟩) 0 len cap 1 = .slice (some ⟨F, 0, none⟩) len cap := by
  unfold sliced
  by_cases h : cap = 0
  · rw [if_pos h]; rfl
  · rw [if_neg h]
    simp [Addr.add]
theorem own_shapeJ {W : World} {B n : Nat} {v : Value} {xs : List Value} (h : W.ownsRow B 5 1 v n xs) : ∃ ao cap, v = .slice ao n cap := by
  rcases h.2 with ⟨rfl, rfl⟩ | ⟨g, cap, cur, rfl, _⟩
  · exact ⟨_, _, rfl⟩
  · exact ⟨_, _, rfl⟩
/-- Two lists that share no row. -/
def Dis (u v : Value) : Prop := ∀ k, u.ownBlock = some k → v.ownBlock ≠ some k
theorem Dis.symm {u v : Value} (h : Dis u v) : Dis v u := fun k h1 h2 => h k h2 h1
theorem own_base {W : World} {B C n : Nat} {v : Value} {xs : List Value} (h : W.ownsRow C 5 1 v n xs) (hB : B ≤ C) : W.ownsRow B 5 1 v n xs := by
  refine ⟨h.1, ?_⟩
  rcases h.2 with h | ⟨g, cap, cur, e, hC, h2⟩
  · exact Or.inl h
  · exact Or.inr ⟨g, cap, cur, e, Nat.le_trans hB hC, h2⟩
theorem dis_new {W W' : World} {B n m : Nat} {u r : Value} {xs ys : List Value} (h : W.ownsRow B 5 1 u n xs) (h' : W'.ownsRow W.heap.size 5 1 r m ys) : Dis u r := by
  intro k hk hr
  have h1 := (h.lt k hk).2
  have h2 := (h'.lt k hr).1
  omega
theorem below_grown {B : Nat} {W4 W W' : World} {v v' : Value} {n : Nat} {xs : List Value} (hb : Below B W4 W) (hB : B ≤ W.heap.size) (hown : W.ownsRow B 5 1 v n xs) (h : (v'.ownBlock = v.ownBlock ∧ W.grownBy W' v.ownBlock) ∨ (v'.ownBlock = some W.heap.size ∧ W.grownBy W' none)) : Below B W4 W' := by
  rcases h with ⟨_, g⟩ | ⟨_, g⟩
  · exact hb.grown g hB (fun k hk => (hown.lt k hk).1)
  · exact hb.grown g hB (fun k hk => by cases hk)
theorem atAppB {P : Program} {ops : Array Oper} {rest : List Oper} {o : Oper} {a : Act} {w : World} {Q : Exit → Act → World → Prop} (s x : Operand) (_ : o.op = .call { callee := .builtin .append, args := #[s, x], argTypes := #[24, 24] }) (h : wpList P ops Q (o :: rest) a w) : wpList P ops Q (o :: rest) a w := h
theorem own_none (W : World) (q : Nat → Nat) : (W.alloc (.cells #[] 5)).ownsRow W.heap.size 5 1 (.slice (some ⟨W.heap.size, 0, none⟩) 0 0) 0 (bytesL 0 q) := own_made W (n := 0) (Nat.le_refl _) (by omega)
end Go.Proofs.YteekoabgbjbabaaGreatDoor.Aes

namespace Go.Proofs.YteekoabgbjbabaaGreatDoor.By8
open Go.RowKit Gf8 Aes
/- All but some blocks as they were; rows of lists. -/

/-- All but the blocks G is as it was. -/
structure Saved (G : Nat → Prop) (w w' : World) : Prop where
  os : w'.os = w.os
  tape : w'.tape = w.tape
  output : w'.output = w.output
  size : w.heap.size ≤ w'.heap.size
  block : ∀ k, k < w.heap.size → ¬ G k → w'.heap[k]? = w.heap[k]?
theorem Saved.refl (G : Nat → Prop) (w : World) : Saved G w w := ⟨rfl, rfl, rfl, Nat.le_refl _, fun _ _ _ => rfl⟩
theorem Saved.below {G : Nat → Prop} {w w' w'' : World} {B : Nat} (h : Saved G w w') (hb : Below B w' w'') (hB : w.heap.size ≤ B) : Saved G w w'' :=
  ⟨hb.os.trans h.os, hb.tape.trans h.tape, hb.output.trans h.output, Nat.le_trans h.size hb.size, fun k hk hG => by rw [hb.block k (by omega), h.block k hk hG]⟩
theorem Saved.cell {G : Nat → Prop} {w w' : World} (h : Saved G w w') {b o : Nat} (v : Value) (hG : w.heap.size ≤ b ∨ G b) : Saved G w (w'.setCell ⟨b, o, none⟩ v) := by
  have hb : Below b w' (w'.setCell ⟨b, o, none⟩ v) := (Below.refl _ _).setCell (p := ⟨b, o, none⟩) (Nat.le_refl _) v
  refine ⟨hb.os.trans h.os, hb.tape.trans h.tape, hb.output.trans h.output, Nat.le_trans h.size hb.size, fun k hk hk2 => ?_⟩
  rw [Below.heap_setCell _ _ _ _ (fun e => by subst e; rcases hG with h | h; omega; exact hk2 h), h.block k hk hk2]
theorem Saved.grown {G : Nat → Prop} {w w' w'' : World} {row : Option Nat} (h : Saved G w w') (hg : w'.grownBy w'' row) (hG : ∀ k, row = some k → w.heap.size ≤ k ∨ G k) : Saved G w w'' :=
  ⟨hg.os.trans h.os, hg.tape.trans h.tape, hg.output.trans h.output, Nat.le_trans h.size hg.size, fun k hk hk2 => by
    rw [hg.block k (Nat.lt_of_lt_of_le hk h.size) (fun e => by rcases hG k e.symm with h | h; omega; exact hk2 h), h.block k hk hk2]⟩
theorem bytesL_congr {n : Nat} {f g : Nat → Nat} (h : ∀ j, j < n → f j = g j) : bytesL n f = bytesL n g := by
  unfold bytesL
  refine List.map_congr_left fun j hj => ?_
  rw [h j (List.mem_range.1 hj)]
theorem infoB : ∃ i, Tryz.prog.info? 24 = some i ∧ i.zero = some (.slice none 0 0) ∧ i.size = 1 ∧ i.bytes = 24 := by
  have h : (Tryz.prog.info? 24).map (fun i => (i.zero, i.size, i.bytes)) = some (some (.slice none 0 0), 1, 24) := by kernel_rfl
  cases hq : Tryz.prog.info? 24 with
  | none => rw [hq] at h; cases h
  | some i =>
    rw [hq] at h
    simp only [Option.map_some, Option.some.injEq, Prod.mk.injEq] at h
    exact ⟨i, rfl, h.1, h.2.1, h.2.2⟩
/-- A row of one's own stays where a cell of another block is set. -/
theorem own_stays {W : World} {B n b k : Nat} {v u : Value} {xs : List Value} {c : Array Value} {ty : TypeId} (h : W.ownsRow B 5 1 v n xs) (hb : W.heap[b]? = some (.cells c ty)) (hv : v.ownBlock ≠ some b) : (W.setCell ⟨b, k, none⟩ u).ownsRow B 5 1 v n xs :=
  h.kept (row := some b) ⟨rfl, rfl, rfl, by simp, fun i _ hi => heap4o _ hb (fun e => hi (by rw [e]))⟩ (.inr hv)
end Go.Proofs.YteekoabgbjbabaaGreatDoor.By8

namespace Go.Proofs.YteekoabgbjbabaaGreatDoor.Cel
open Go.RowKit Gf8 Aes By8
/- CellKeeps: rows of one's own, many side by side; lists of lists. -/

/-- m rows of bytes, each of its own, no two of one block. -/
structure Fam (B m : Nat) (x : Nat → Value) (nn : Nat → Nat) (ff : Nat → Nat → Nat) (W : World) : Prop where
  rows : ∀ t, t < m → W.ownsRow B 5 1 (x t) (nn t) (bytesL (nn t) (ff t))
  dis : ∀ s t, s < m → t < m → s ≠ t → Dis (x s) (x t)
theorem Fam.none (B : Nat) (x : Nat → Value) (nn : Nat → Nat) (ff : Nat → Nat → Nat) (W : World) : Fam B 0 x nn ff W := ⟨fun t h => by omega, fun s t h => by omega⟩
theorem Fam.on {B m : Nat} {x : Nat → Value} {nn : Nat → Nat} {ff : Nat → Nat → Nat} {W W' : World} (h : Fam B m x nn ff W) (hb : Below W.heap.size W W') : Fam B m x nn ff W' := ⟨fun t ht => ownsRow_below (h.rows t ht) hb, h.dis⟩
def updX (x : Nat → Value) (m : Nat) (r : Value) : Nat → Value := fun t => if t = m then r else x t
theorem updX_at (x : Nat → Value) (m : Nat) (r : Value) : updX x m r m = r := if_pos rfl
theorem updX_lt (x : Nat → Value) {m t : Nat} (r : Value) (h : t < m) : updX x m r t = x t := if_neg (by omega)
/-- One more, made behind all that lay. -/
theorem Fam.add {B m : Nat} {x : Nat → Value} {nn : Nat → Nat} {ff : Nat → Nat → Nat} {W W' : World} (h : Fam B m x nn ff W) (hb : Below W.heap.size W W') (hB : B ≤ W.heap.size) {r : Value} (hr : W'.ownsRow W.heap.size 5 1 r (nn m) (bytesL (nn m) (ff m))) : Fam B (m + 1) (updX x m r) nn ff W' := by
  refine ⟨fun t ht => ?_, fun s t hs ht hst => ?_⟩
  · by_cases e : t = m
    · subst e; rw [updX_at]; exact own_base hr hB
    · rw [updX_lt _ _ (by omega)]; exact ownsRow_below (h.rows t (by omega)) hb
  · by_cases e : t = m
    · subst e
      rw [updX_at, updX_lt _ _ (by omega)]
      exact dis_new (h.rows s (by omega)) hr
    · rw [updX_lt x r (show t < m by omega)]
      by_cases e2 : s = m
      · subst e2
        rw [updX_at]
        exact (dis_new (h.rows t (by omega)) hr).symm
      · rw [updX_lt _ _ (by omega)]
        exact h.dis s t (by omega) (by omega) hst
/-- A row of bytes lies in a block of bytes. -/
theorem own_type {W : World} {B n k : Nat} {v : Value} {xs : List Value} (h : W.ownsRow B 5 1 v n xs) (hk : v.ownBlock = some k) : ∃ c, W.heap[k]? = some (.cells c 5) := by
  rcases h.2 with ⟨rfl, _⟩ | ⟨g, cap, cur, rfl, _, hg, _⟩
  · cases hk
  · have e : g = k := Option.some.inj hk
    subst e
    exact ⟨cur, hg⟩
theorem own_typeL {W : World} {B n k : Nat} {v : Value} {xs : List Value} (h : W.ownsRow B 24 1 v n xs) (hk : v.ownBlock = some k) : ∃ c, W.heap[k]? = some (.cells c 24) := by
  rcases h.2 with ⟨rfl, _⟩ | ⟨g, cap, cur, rfl, _, hg, _⟩
  · cases hk
  · have e : g = k := Option.some.inj hk
    subst e
    exact ⟨cur, hg⟩
theorem types_ne {W : World} {B C n m : Nat} {v u : Value} {xs ys : List Value} (h : W.ownsRow B 5 1 v n xs) (h' : W.ownsRow C 24 1 u m ys) : v.ownBlock = none ∨ u.ownBlock ≠ v.ownBlock := by
  cases hv : v.ownBlock with
  | none => exact Or.inl rfl
  | some k =>
    refine Or.inr fun e => ?_
    obtain ⟨c, hc⟩ := own_type h hv
    obtain ⟨d, hd⟩ := own_typeL h' e
    rw [hc] at hd
    simp at hd
/-- A list of lists has grown. -/
theorem Fam.grown {B C m n : Nat} {x : Nat → Value} {nn : Nat → Nat} {ff : Nat → Nat → Nat} {W W' : World} {u : Value} {ys : List Value} (h : Fam B m x nn ff W) (hu : W.ownsRow C 24 1 u n ys) (hg : W.grownBy W' u.ownBlock) : Fam B m x nn ff W' :=
  ⟨fun t ht => (h.rows t ht).kept hg ((types_ne (h.rows t ht) hu).imp id fun e => fun q => e q.symm), h.dis⟩
section
variable {P : Program} (w : World)
end
def capV (v : Value) : Nat := match v with | .slice _ _ c => c | _ => 0
section
variable {P : Program} (w : World)
theorem run_append_ownR (base : Nat) (t ty e : TypeId) (i : TypeInfo) (z : Value) (ht : P.underlying t = some (.slice e)) (hi : P.info? e = some i) (hz : i.zero = some z)
    (hsize : i.size = 1) (hby : i.bytes = 1) (hzs : z.cells.size = 1)
    (v : Value) (n : Nat) (xs : List Value) (hown : w.ownsRow base e 1 v n xs)
    (a : Addr) (m c : Nat) (news : List Value) (hl : news.length = m) (hnews : ∀ j u, news[j]? = some u → w.cell? (a.add j) = some u) (h1 : ∀ u ∈ news, u.oneCell' = true)
    (hbytes : n + m ≤ 200000000000000) (hbase : base ≤ w.heap.size) :
    ∃ v' w', (Builtin.append_ #[t, t] ty #[v, .slice (some a) m c]).run P w = .ok v' w' ∧ w'.ownsRow base e 1 v' (n + m) (xs ++ news) ∧ ((v'.ownBlock = v.ownBlock ∧ w.grownBy w' v.ownBlock ∧ capV v' = capV v) ∨ (v'.ownBlock = some w.heap.size ∧ w.grownBy w' none)) := by
  have h63 : n + m ≤ maxLen := by unfold maxLen; omega
  have hl' : news.length = m * i.size := by rw [hl, hsize, Nat.mul_one]
  have hxs : xs.length = n := by have := hown.1; omega
  have hxs' : xs.length = n * i.size := by rw [hxs, hsize, Nat.mul_one]
  have hlen : (xs ++ news).length = (n + m) * 1 := by rw [List.length_append, hxs, hl, Nat.mul_one]
  have grown : ∀ (old : Nat), old < n + m → ∀ (row : Option Nat),
      (w.drew.alloc (.cells (xs.toArray ++ news.toArray ++ Builtin.zeroCells z.cells (grownCap w (n + m) old e - (n + m))) e)).ownsRow base e 1
        (.slice (some ⟨w.heap.size, 0, none⟩) (n + m) (grownCap w (n + m) old e)) (n + m) (xs ++ news) ∧
      w.grownBy (w.drew.alloc (.cells (xs.toArray ++ news.toArray ++ Builtin.zeroCells z.cells (grownCap w (n + m) old e - (n + m))) e)) row := by
    intro old ho row
    have hge := grownCap_ge w (n + m) old e
    have hcm : grownCap w (n + m) old e ≤ maxLen := grownCap_le_maxLen w (n + m) old e h63
    refine ⟨⟨hlen, .inr ⟨w.heap.size, _, _, rfl, hbase, heap_alloc_new w.drew _, hge, hcm, ?_, ?_⟩⟩, ⟨rfl, rfl, rfl, by simp, fun k hk _ => Below.heap_alloc w.drew _ k hk⟩⟩
    · simp only [Array.size_append, List.size_toArray, size_zeroCells, hzs, hxs, hl]
      omega
    · simp only [Array.toList_append, List.append_assoc]
      rw [← List.append_assoc, ← hlen]
      exact List.take_left
  rcases hown.2 with ⟨rfl, rfl⟩ | ⟨g, cap, cur, rfl, hbg, hg, hnc, hcm, hcs, htake⟩
  · have hx : xs = [] := List.eq_nil_of_length_eq_zero hxs
    subst hx
    by_cases hm : m = 0
    · subst hm
      have hn : news = [] := List.eq_nil_of_length_eq_zero hl
      subst hn
      refine ⟨.slice none 0 0, w, ?_, World.ownsRow_nil w base e 1, .inl ⟨rfl, ⟨rfl, rfl, rfl, Nat.le_refl _, fun _ _ _ => rfl⟩, rfl⟩⟩
      simp [Builtin.append_, run_underlying ht, sizeOf, typeInfo, hi, Builtin.lenOf, Builtin.firstCells, loadCells, loadCellsFrom]
    · have hr := run_append_nil (P := P) w t ty e i z ht hi hz a m c news hl' hnews (by omega) (by omega) (by rw [hby]; omega)
      have hgr := grown 0 (by omega) none
      simp only [Nat.zero_add, List.nil_append, Array.empty_append] at hgr ⊢
      exact ⟨_, _, hr, hgr.1, .inr ⟨rfl, hgr.2⟩⟩
  · by_cases hroom : n + m ≤ cap
    · have hfit : n * i.size + news.length ≤ cur.size := by rw [hl, hcs, hsize, Nat.mul_one, Nat.mul_one]; exact hroom
      have hr := run_append_room (P := P) w t ty e i ht hi g n cap cur hg a m c news hl' hnews h1 hroom hfit
      rw [hsize, Nat.mul_one] at hr
      refine ⟨_, _, hr, ⟨hlen, .inr ⟨g, cap, _, rfl, hbg, setRow_heap w g cur _ e _ hg, hroom, hcm, ?_, ?_⟩⟩, .inl ⟨rfl, ⟨rfl, rfl, rfl, by simp, fun k _ hk => setRow_other w g k _ (fun e => hk (by simp [Value.ownBlock, e]))⟩, rfl⟩⟩
      · simp only [List.size_toArray, List.length_append, List.length_take, List.length_drop, Array.length_toList]
        omega
      · have ht2 : cur.toList.take n = xs := by rw [← htake, Nat.mul_one]
        rw [ht2, ← hlen]
        exact List.take_left
    · have holds : ∀ j u, xs[j]? = some u → w.cell? ((⟨g, 0, none⟩ : Addr).add j) = some u := hown.cells (g := g) rfl
      have hr := run_append_grow (P := P) w t ty e i z ht hi hz ⟨g, 0, none⟩ n cap xs hxs' holds a m c news hl' hnews (by omega) (by omega) (by rw [hby]; exact grow_fits (by omega) hbytes)
      have hgr := grown cap (by omega) none
      exact ⟨_, _, hr, hgr.1, .inr ⟨rfl, hgr.2⟩⟩
end
theorem grown_row {W W' : World} {v v' : Value} (h : (v'.ownBlock = v.ownBlock ∧ W.grownBy W' v.ownBlock) ∨ (v'.ownBlock = some W.heap.size ∧ W.grownBy W' none)) : W.grownBy W' v.ownBlock := by
  rcases h with ⟨_, h⟩ | ⟨_, h⟩
  · exact h
  · exact ⟨h.os, h.tape, h.output, h.size, fun k hk _ => h.block k hk (by simp)⟩
/-- Row i, and what was appended to it. -/
def gRF (f : Nat → Nat) (n : Nat) : Nat → Nat := fun l => if l < n then f l else 238
/-- What lies in one block with a row of one's own has its room. -/
theorem own_cap {W : World} {B n k : Nat} {v : Value} {xs : List Value} (h : W.ownsRow B 5 1 v n xs) (hk : v.ownBlock = some k) : ∃ c, W.heap[k]? = some (.cells c 5) ∧ c.size = capV v ∧ v = .slice (some ⟨k, 0, none⟩) n (capV v) ∧ B ≤ k ∧ n ≤ capV v ∧ capV v ≤ maxLen ∧ c.toList.take n = xs := by
  rcases h.2 with ⟨rfl, _⟩ | ⟨g, cap, cur, rfl, hB, hg, h1, h2, h3, ht⟩
  · cases hk
  · have e : g = k := Option.some.inj hk
    subst e
    rw [Nat.mul_one] at h3 ht
    exact ⟨cur, hg, h3, rfl, hB, h1, h2, ht⟩
theorem Fam.grow {B m : Nat} {x : Nat → Value} {nn : Nat → Nat} {ff : Nat → Nat → Nat} {W W' : World} (h : Fam B m x nn ff W) {i k : Nat} (hi : i < m) {u v' : Value} (hu : W.ownsRow B 5 1 u (nn i + k) (bytesL (nn i + k) (gRF (ff i) (nn i)))) (pl : u.ownBlock = (x i).ownBlock ∨ ∀ t, t < m → Dis u (x t))
    (hv : W'.ownsRow B 5 1 v' (nn i + k + 1) (bytesL (nn i + k + 1) (gRF (ff i) (nn i)))) (hp : (v'.ownBlock = u.ownBlock ∧ W.grownBy W' u.ownBlock ∧ capV v' = capV u) ∨ (v'.ownBlock = some W.heap.size ∧ W.grownBy W' Option.none)) :
    Fam B m x nn ff W' ∧ (v'.ownBlock = (x i).ownBlock ∨ ∀ t, t < m → Dis v' (x t)) := by
  rcases hp with ⟨e, hg, hc⟩ | ⟨e, hg⟩
  · refine ⟨⟨fun t ht => ?_, h.dis⟩, ?_⟩
    · cases hq : (x t).ownBlock with
      | none => exact (h.rows t ht).kept hg (.inl hq)
      | some b =>
        by_cases hub : u.ownBlock = some b
        · have et : t = i := by
            rcases pl with pl | pl
            · rw [pl] at hub
              cases Nat.decEq t i with
              | isTrue h1 => exact h1
              | isFalse h1 => exact absurd hub (h.dis t i ht hi h1 b hq)
            · exact absurd hq (pl t ht b hub)
          subst et
          obtain ⟨c1, g1, s1, v1, B1, n1, m1, t1⟩ := own_cap (h.rows t ht) hq
          obtain ⟨c2, g2, s2, v2, _⟩ := own_cap hu hub
          obtain ⟨c3, g3, s3, v3, _, n3, m3, t3⟩ := own_cap hv (by rw [e]; exact hub)
          have ecap : capV (x t) = capV v' := by
            rw [g1] at g2
            have : c1 = c2 := by simpa using g2
            rw [hc, ← s1, ← s2, this]
          refine ⟨by rw [bytesL_len, Nat.mul_one], .inr ⟨b, capV (x t), c3, v1, B1, g3, n1, m1, by rw [Nat.mul_one, s3, ecap], ?_⟩⟩
          rw [Nat.mul_one]
          have h4 : c3.toList.take (nn t) = (c3.toList.take (nn t + k + 1)).take (nn t) := by rw [List.take_take, Nat.min_eq_left (by omega)]
          rw [h4, t3]
          unfold bytesL
          rw [← List.map_take, List.take_range, Nat.min_eq_left (by omega)]
          apply List.map_congr_left
          intro l hl
          have := List.mem_range.1 hl
          unfold gRF
          rw [if_pos this]
        · exact (h.rows t ht).kept hg (.inr fun q => hub (by rw [← q]; exact hq))
    · rcases pl with pl | pl
      · exact .inl (e.trans pl)
      · exact .inr fun t ht b hb => pl t ht b (by rw [← e]; exact hb)
  · refine ⟨⟨fun t ht => (h.rows t ht).kept hg (by cases (x t).ownBlock <;> simp), h.dis⟩, .inr fun t ht b hb q => ?_⟩
    rw [e] at hb
    have := Option.some.inj hb
    have := ((h.rows t ht).lt b q).2
    omega
theorem execIdxL {o : Oper} {a : Act} {w : World} {y i : Operand} {b n cap k : Nat} (ho : o.op = .indexAddr 22 y i) (hx : a.eval y = .slice (some ⟨b, 0, none⟩) n cap) (hi : a.eval i = .int .i64 (k : Int)) (hk : k < n) : (execOp a.eval o).run Tryz.prog w = .ok (.value (.pointer (some ⟨b, k, none⟩))) w := by
  have h1 : (k : Int) < n := by omega
  unfold execOp
  simp only [ho, hx, hi]
  simp [go_sem, h1]
theorem execLdL {o : Oper} {a : Act} {w : World} {y : Operand} {b f : Nat} {v : Value} (ho : o.op = .load 24 y) (hx : a.eval y = .pointer (some ⟨b, f, none⟩)) (hc : w.cell? ⟨b, f, none⟩ = some v) : (execOp a.eval o).run Tryz.prog w = .ok (.value v) w := by
  unfold execOp
  simp only [ho, hx]
  simp [go_sem, hc]
end Go.Proofs.YteekoabgbjbabaaGreatDoor.Cel

namespace Go.Proofs.YteekoabgbjbabaaGreatDoor.Cel
open Go.RowKit Gf8 Aes By8
/- Lists of their own, of any lengths, that are marked and grown apart. -/

/-- Row t and what was appended to it. -/
def gM (f : Nat → Nat) (n z : Nat) : Nat → Nat := fun l => if l < n then f l else z
/-- m lists, the t-th of nn t bytes; what each has been grown to. -/
structure ApN (B m : Nat) (nn : Nat → Nat) (x : Nat → Value) (ff : Nat → Nat → Nat) (zz : Nat → Nat) (gv : Nat → Value) (gl : Nat → Nat) (W : World) : Prop where
  fam : Fam B m x nn ff W
  grown : ∀ t, t < m → W.ownsRow B 5 1 (gv t) (gl t) (bytesL (gl t) (gM (ff t) (nn t) (zz t)))
  le : ∀ t, t < m → nn t ≤ gl t
  at' : ∀ t, t < m → (gv t).ownBlock = (x t).ownBlock ∨ ∀ s, s < m → Dis (gv t) (x s)
  dis : ∀ s t, s < m → t < m → s ≠ t → Dis (gv s) (gv t)
theorem ApN.begin {B m : Nat} {nn : Nat → Nat} {x : Nat → Value} {ff : Nat → Nat → Nat} {zz : Nat → Nat} {W : World} (h : Fam B m x nn ff W) : ApN B m nn x ff zz x nn W :=
  ⟨h, fun t ht => by
    have e : bytesL (nn t) (gM (ff t) (nn t) (zz t)) = bytesL (nn t) (ff t) := bytesL_congr fun l hl => if_pos hl
    rw [e]
    exact h.rows t ht, fun _ _ => Nat.le_refl _, fun _ _ => Or.inl rfl, h.dis⟩
theorem ApN.on {B m : Nat} {nn : Nat → Nat} {x : Nat → Value} {ff : Nat → Nat → Nat} {zz : Nat → Nat} {gv : Nat → Value} {gl : Nat → Nat} {W W' : World} (h : ApN B m nn x ff zz gv gl W) (hb : Below W.heap.size W W') : ApN B m nn x ff zz gv gl W' :=
  ⟨h.fam.on hb, fun t ht => ownsRow_below (h.grown t ht) hb, h.le, h.at', h.dis⟩
/-- A cell of a list of lists is set: the bytes stay. -/
theorem ApN.cell {B m : Nat} {nn : Nat → Nat} {x : Nat → Value} {ff : Nat → Nat → Nat} {zz : Nat → Nat} {gv : Nat → Value} {gl : Nat → Nat} {W : World} {b k : Nat} {c : Array Value} {u : Value} (h : ApN B m nn x ff zz gv gl W) (hb : W.heap[b]? = some (.cells c 24)) : ApN B m nn x ff zz gv gl (W.setCell ⟨b, k, none⟩ u) :=
  ⟨⟨fun t ht => own_stays (h.fam.rows t ht) hb (fun e => own_ne (h.fam.rows t ht) hb (by decide) e.symm), h.fam.dis⟩, fun t ht => own_stays (h.grown t ht) hb (fun e => own_ne (h.grown t ht) hb (by decide) e.symm), h.le, h.at', h.dis⟩
/-- One of them has been grown. -/
theorem ApN.grow {B m : Nat} {nn : Nat → Nat} {x : Nat → Value} {ff : Nat → Nat → Nat} {zz : Nat → Nat} {gv : Nat → Value} {gl : Nat → Nat} {W W' : World} (h : ApN B m nn x ff zz gv gl W) {i k : Nat} (hi : i < m) {v' : Value}
    (hv : W'.ownsRow B 5 1 v' (gl i + k) (bytesL (gl i + k) (gM (ff i) (nn i) (zz i)))) (hp : (v'.ownBlock = (gv i).ownBlock ∧ W.grownBy W' (gv i).ownBlock ∧ capV v' = capV (gv i)) ∨ (v'.ownBlock = some W.heap.size ∧ W.grownBy W' Option.none)) :
    ApN B m nn x ff zz (updX gv i v') (fun t => if t = i then gl i + k else gl t) W' := by
  have hle := h.le i hi
  rcases hp with ⟨e, hg, hc⟩ | ⟨e, hg⟩
  · have keep : ∀ t, t < m → t ≠ i → W'.ownsRow B 5 1 (gv t) (gl t) (bytesL (gl t) (gM (ff t) (nn t) (zz t))) := fun t ht hne => by
      refine (h.grown t ht).kept hg ?_
      cases hq : (gv t).ownBlock with
      | none => exact Or.inl rfl
      | some b => exact Or.inr (fun q => h.dis t i ht hi hne b hq q.symm)
    refine ⟨⟨fun t ht => ?_, h.fam.dis⟩, fun t ht => ?_, fun t ht => ?_, fun t ht => ?_, fun s t hs ht hst => ?_⟩
    · cases hq : (x t).ownBlock with
      | none => exact (h.fam.rows t ht).kept hg (.inl hq)
      | some b =>
        by_cases hub : (gv i).ownBlock = some b
        · have et : t = i := by
            rcases h.at' i hi with pl | pl
            · rw [pl] at hub
              cases Nat.decEq t i with
              | isTrue h1 => exact h1
              | isFalse h1 => exact absurd hub (h.fam.dis t i ht hi h1 b hq)
            · exact absurd hq (pl t ht b hub)
          subst et
          obtain ⟨c1, g1, s1, v1, B1, n1, m1, t1⟩ := own_cap (h.fam.rows t ht) hq
          obtain ⟨c2, g2, s2, v2, _⟩ := own_cap (h.grown t ht) hub
          obtain ⟨c3, g3, s3, v3, _, n3, m3, t3⟩ := own_cap hv (by rw [e]; exact hub)
          have ecap : capV (x t) = capV v' := by
            rw [g1] at g2
            have : c1 = c2 := by simpa using g2
            rw [hc, ← s1, ← s2, this]
          refine ⟨by rw [bytesL_len, Nat.mul_one], .inr ⟨b, capV (x t), c3, v1, B1, g3, n1, m1, by rw [Nat.mul_one, s3, ecap], ?_⟩⟩
          rw [Nat.mul_one]
          have h4 : c3.toList.take (nn t) = (c3.toList.take (gl t + k)).take (nn t) := by rw [List.take_take, Nat.min_eq_left (by omega)]
          rw [h4, t3]
          unfold bytesL
          rw [← List.map_take, List.take_range, Nat.min_eq_left (by omega)]
          apply List.map_congr_left
          intro l hl
          have := List.mem_range.1 hl
          unfold gM
          rw [if_pos this]
        · exact (h.fam.rows t ht).kept hg (.inr fun q => hub (by rw [← q]; exact hq))
    · by_cases et : t = i
      · subst et
        rw [updX_at]
        simp only [if_true]
        exact hv
      · unfold updX
        simp only [if_neg et]
        exact keep t ht et
    · by_cases et : t = i
      · subst et; simp only [if_true]; omega
      · simp only [if_neg et]; exact h.le t ht
    · by_cases et : t = i
      · subst et
        rw [updX_at]
        rcases h.at' t ht with pl | pl
        · exact .inl (e.trans pl)
        · exact .inr fun s hs b hb => pl s hs b (by rw [← e]; exact hb)
      · unfold updX
        simp only [if_neg et]
        exact h.at' t ht
    · unfold updX
      by_cases e1 : s = i
      · have e2 : t ≠ i := fun q => hst (e1.trans q.symm)
        simp only [if_pos e1, if_neg e2]
        intro b hb
        exact h.dis i t hi ht (fun q => e2 q.symm) b (by rw [← e]; exact hb)
      · by_cases e2 : t = i
        · simp only [if_neg e1, if_pos e2]
          intro b hb hq
          exact h.dis s i hs hi e1 b hb (by rw [← e]; exact hq)
        · simp only [if_neg e1, if_neg e2]
          exact h.dis s t hs ht hst
  · have old : ∀ {v : Value} {n : Nat} {xs : List Value}, W.ownsRow B 5 1 v n xs → W'.ownsRow B 5 1 v n xs := fun {v} {n} {xs} hw => hw.kept hg (by cases v.ownBlock <;> simp)
    have new : ∀ {v : Value} {n : Nat} {xs : List Value}, W.ownsRow B 5 1 v n xs → Dis v' v := fun {v} {n} {xs} hw b hb q => by
      rw [e] at hb
      have := Option.some.inj hb
      have := (hw.lt b q).2
      omega
    refine ⟨⟨fun t ht => old (h.fam.rows t ht), h.fam.dis⟩, fun t ht => ?_, fun t ht => ?_, fun t ht => ?_, fun s t hs ht hst => ?_⟩
    · by_cases et : t = i
      · subst et
        rw [updX_at]
        simp only [if_true]
        exact hv
      · unfold updX
        simp only [if_neg et]
        exact old (h.grown t ht)
    · by_cases et : t = i
      · subst et; simp only [if_true]; omega
      · simp only [if_neg et]; exact h.le t ht
    · by_cases et : t = i
      · subst et
        rw [updX_at]
        exact .inr fun s hs => new (h.fam.rows s hs)
      · unfold updX
        simp only [if_neg et]
        exact h.at' t ht
    · unfold updX
      by_cases e1 : s = i
      · have e2 : t ≠ i := fun q => hst (e1.trans q.symm)
        simp only [if_pos e1, if_neg e2]
        exact new (h.grown t ht)
      · by_cases e2 : t = i
        · simp only [if_neg e1, if_pos e2]
          exact (new (h.grown s hs)).symm
        · simp only [if_neg e1, if_neg e2]
          exact h.dis s t hs ht hst

end Go.Proofs.YteekoabgbjbabaaGreatDoor.Cel
