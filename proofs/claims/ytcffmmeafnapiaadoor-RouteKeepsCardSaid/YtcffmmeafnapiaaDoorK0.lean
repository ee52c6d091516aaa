import Derived.Test.YtcffmmeafnapiaaDoorB1
import Derived.WalkKit
import Derived.Laws.AppendOwn
import Derived.Test.YtcffmmeafnapiaaDoorB4
import Derived.Laws.AppendOwnNone
import Derived.Test.YtcffmmeafnapiaaDoorA7
import Derived.Laws.BytesArg
namespace Go.Proofs.YtcffmmeafnapiaaDoor
open Go.RowKit

def fl (l : List Int) : Nat → Int := fun i => l.getD i 0

/-- a table of words is the schedule if it begins as it must and each word follows -/
theorem sched_eval (b : Nat → Int) (W : List Int) (h0 : ∀ i, i < 16 → sch1 b 64 i = fl W i) (hs : ∀ j, j < 48 → nextW (fl W) (16 + j) = fl W (16 + j)) : ∀ i, i < 64 → sched b i = fl W i := by
  have key : ∀ j, j ≤ 48 → ∀ i, i < 16 + j → sch2 (sch1 b 64) j i = fl W i := by
    intro j
    induction j with
    | zero => intro _ i hi; exact h0 i (by omega)
    | succ j ih =>
      intro hj i hi
      have ih' := ih (by omega)
      simp only [sch2, upd]
      by_cases e : i = 16 + j
      · subst e
        rw [if_pos rfl, ← hs j (by omega)]
        unfold nextW
        rw [ih' _ (by omega), ih' _ (by omega), ih' _ (by omega), ih' _ (by omega)]
      · rw [if_neg e]; exact ih' i (by omega)
  intro i hi
  exact key 48 (Nat.le_refl _) i (by omega)
theorem stepR_congr (K W W' : Nat → Int) (t : Nat) (r r' : Nat → Int) (hW : W t = W' t) (h : ∀ i, i < 8 → r i = r' i) (i : Nat) (hi : i < 8) : stepR K W t r i = stepR K W' t r' i := by
  have h0 := h 0 (by omega)
  have h1 := h 1 (by omega)
  have h2 := h 2 (by omega)
  have h3 := h 3 (by omega)
  have h4 := h 4 (by omega)
  have h5 := h 5 (by omega)
  have h6 := h 6 (by omega)
  have h7 := h 7 (by omega)
  match i, hi with
  | 0, _ => simp only [stepR, t1, t2, h0, h1, h2, h4, h5, h6, h7, hW]
  | 1, _ => simp only [stepR, h0]
  | 2, _ => simp only [stepR, h1]
  | 3, _ => simp only [stepR, h2]
  | 4, _ => simp only [stepR, t1, h3, h4, h5, h6, h7, hW]
  | 5, _ => simp only [stepR, h4]
  | 6, _ => simp only [stepR, h5]
  | 7, _ => simp only [stepR, h6]
/-- a table of states is the run if it begins as it must and each state follows -/
theorem iter_eval (K W W' s : Nat → Int) (S : List (List Int)) (hW : ∀ t, t < 64 → W t = W' t) (h0 : ∀ i, i < 8 → s i = fl (S.getD 0 []) i)
    (hs : ∀ t, t < 64 → ∀ i, i < 8 → stepR K W' t (fl (S.getD t [])) i = fl (S.getD (t + 1) []) i) : ∀ t, t ≤ 64 → ∀ i, i < 8 → iterR K W s t i = fl (S.getD t []) i := by
  intro t
  induction t with
  | zero => intro _ i hi; exact h0 i hi
  | succ t ih =>
    intro ht i hi
    simp only [iterR]
    rw [stepR_congr K W W' t _ (fl (S.getD t [])) (hW t (by omega)) (ih (by omega)) i hi]
    exact hs t (by omega) i hi
theorem fin_all {n : Nat} {p : Nat → Prop} (h : ∀ i : Fin n, p i.val) : ∀ i, i < n → p i := fun i hi => h ⟨i, hi⟩
end Go.Proofs.YtcffmmeafnapiaaDoor

namespace Go.Proofs.YtcffmmeafnapiaaDoor
open Go.RowKit

/-- The blocks in the second part. -/
def WC (w W : World) (C : Nat) (s k f v : Nat → Int) : Prop :=
  W.heap[w.heap.size]? = some (.cells (tab32 8 s) 79) ∧ W.heap[w.heap.size + 1]? = some (.cells (tab32 64 k) 105) ∧ W.heap[w.heap.size + 2]? = some (.cells (tab32 8 fun _ => 0) 79) ∧ W.heap[w.heap.size + 3]? = some (.cells (tab32 64 f) 105) ∧ W.heap[C]? = some (.cells (tab32 8 v) 79) ∧ w.heap.size + 3 < C ∧ Below w.heap.size w W
theorem WC.drewN {w W : World} {C : Nat} {s k f v : Nat → Int} (h : WC w W C s k f v) (n : Nat) : WC w (W.drewN n) C s k f v :=
  ⟨h.1, h.2.1, h.2.2.1, h.2.2.2.1, h.2.2.2.2.1, h.2.2.2.2.2.1, below_drewN h.2.2.2.2.2.2 n⟩
theorem WC.drew {w W : World} {C : Nat} {s k f v : Nat → Int} (h : WC w W C s k f v) : WC w W.drew C s k f v := h.drewN 1
theorem WC.cv {w W : World} {C : Nat} {s k f v : Nat → Int} (h : WC w W C s k f v) (i : Nat) (hi : i < 8) : W.cell? ⟨C, i, none⟩ = some (.int .u32 (v i)) := by
  rw [cell_of_row _ _ _ _ _ _ h.2.2.2.2.1]; exact tab32_get 8 v i hi
theorem WC.cs {w W : World} {C : Nat} {s k f v : Nat → Int} (h : WC w W C s k f v) (i : Nat) (hi : i < 8) : W.cell? ⟨w.heap.size, i, none⟩ = some (.int .u32 (s i)) ∧ W.frozen? ⟨w.heap.size, i, none⟩ = false :=
  ⟨by rw [cell_of_row _ _ _ _ _ _ h.1]; exact tab32_get 8 s i hi, frozen_of_row h.1⟩
theorem WC.ck {w W : World} {C : Nat} {s k f v : Nat → Int} (h : WC w W C s k f v) (i : Nat) (hi : i < 64) : W.cell? ⟨w.heap.size + 1, i, none⟩ = some (.int .u32 (k i)) := by
  rw [cell_of_row _ _ _ _ _ _ h.2.1]; exact tab32_get 64 k i hi
theorem WC.cw {w W : World} {C : Nat} {s k f v : Nat → Int} (h : WC w W C s k f v) (i : Nat) (hi : i < 64) : W.cell? ⟨w.heap.size + 3, i, none⟩ = some (.int .u32 (f i)) := by
  rw [cell_of_row _ _ _ _ _ _ h.2.2.2.1]; exact tab32_get 64 f i hi
theorem WC.setS {w W : World} {C : Nat} {s k f v : Nat → Int} (h : WC w W C s k f v) (i : Nat) (x : Int) : WC w (W.setCell ⟨w.heap.size, i, none⟩ (.int .u32 x)) C (upd s i x) k f v := by
  obtain ⟨h1, h2, h3, h4, h5, h6, h7⟩ := h
  refine ⟨?_, ?_, ?_, ?_, ?_, h6, h7.setCell (Nat.le_refl _) _⟩
  · rw [heap_setCell_row _ h1, tab32_set]
  · rw [Below.heap_setCell _ _ _ _ (by simp)]; exact h2
  · rw [Below.heap_setCell _ _ _ _ (by simp)]; exact h3
  · rw [Below.heap_setCell _ _ _ _ (by simp)]; exact h4
  · rw [Below.heap_setCell _ _ _ _ (by simp; omega)]; exact h5

/-- The blocks in the first part. -/
def WB (w W : World) (s k f : Nat → Int) : Prop :=
  W.heap[w.heap.size]? = some (.cells (tab32 8 s) 79) ∧ W.heap[w.heap.size + 1]? = some (.cells (tab32 64 k) 105) ∧ W.heap[w.heap.size + 2]? = some (.cells (tab32 8 fun _ => 0) 79) ∧ W.heap[w.heap.size + 3]? = some (.cells (tab32 64 f) 105) ∧ Below w.heap.size w W
theorem WB.drew {w W : World} {s k f : Nat → Int} (h : WB w W s k f) : WB w W.drew s k f := ⟨h.1, h.2.1, h.2.2.1, h.2.2.2.1, h.2.2.2.2.drew⟩
theorem WB.drewN {w W : World} {s k f : Nat → Int} (h : WB w W s k f) (n : Nat) : WB w (W.drewN n) s k f := ⟨h.1, h.2.1, h.2.2.1, h.2.2.2.1, below_drewN h.2.2.2.2 n⟩
theorem WB.set {w W : World} {s k f : Nat → Int} (h : WB w W s k f) (t : Nat) (v : Int) : WB w (W.setCell ⟨w.heap.size + 3, t, none⟩ (.int .u32 v)) s k (upd f t v) := by
  obtain ⟨h1, h2, h3, h4, h5⟩ := h
  refine ⟨?_, ?_, ?_, ?_, h5.setCell (by simp) _⟩
  · rw [Below.heap_setCell _ _ _ _ (by simp)]; exact h1
  · rw [Below.heap_setCell _ _ _ _ (by simp)]; exact h2
  · rw [Below.heap_setCell _ _ _ _ (by simp)]; exact h3
  · rw [heap_setCell_row _ h4, tab32_set]
theorem WB.cell {w W : World} {s k f : Nat → Int} (h : WB w W s k f) (t : Nat) (ht : t < 64) : W.cell? ⟨w.heap.size + 3, t, none⟩ = some (.int .u32 (f t)) ∧ W.frozen? ⟨w.heap.size + 3, t, none⟩ = false :=
  ⟨by rw [cell_of_row _ _ _ _ _ _ h.2.2.2.1]; exact tab32_get 64 f t ht, frozen_of_row h.2.2.2.1⟩
theorem WB.start (w : World) (s k q : Nat → Int) : WB w ((((w.alloc (.cells (tab32 8 s) 79)).alloc (.cells (tab32 64 k) 105)).alloc (.cells (tab32 8 fun _ => 0) 79)).alloc (.cells (tab32 64 (sch1 q 0)) 105)) s k (sch1 q 0) := by
  have h := heap3 w (.cells (tab32 8 s) 79) (.cells (tab32 64 k) 105) (.cells (tab32 8 fun _ => 0) 79) 0
  refine ⟨?_, ?_, ?_, ?_, (below3 w (.cells (tab32 8 s) 79) (.cells (tab32 64 k) 105) (.cells (tab32 8 fun _ => 0) 79) 0).alloc (by simp; omega) _⟩
  · rw [Below.heap_alloc _ _ _ (by simp; omega)]; exact h.1
  · rw [Below.heap_alloc _ _ _ (by simp)]; exact h.2.1
  · rw [Below.heap_alloc _ _ _ (by simp)]; exact h.2.2
  · have := heap_alloc_new (((w.alloc (.cells (tab32 8 s) 79)).alloc (.cells (tab32 64 k) 105)).alloc (.cells (tab32 8 fun _ => 0) 79)) (.cells (tab32 64 (sch1 q 0)) 105)
    simpa using this

end Go.Proofs.YtcffmmeafnapiaaDoor

namespace Go.Proofs.YtcffmmeafnapiaaDoor
open Go.RowKit

theorem nextcap_le {need old : Nat} (h : old < need) : Builtin.nextslicecap need old ≤ need + need / 4 + 1000 := by
  unfold Builtin.nextslicecap
  split
  · omega
  · split
    · omega
    · rw [growBy_four]
      repeat' split
      all_goals omega
theorem grow_fits {need old : Nat} (h : old < need) (hb : need ≤ 200000000000000) : Builtin.nextslicecap need old * 1 ≤ 281474976710656 := by
  have h1 := nextcap_le h
  omega

section
variable {P : Program} (w : World)
/-- append to a row of bytes of one's own, up to 2 * 10^14 of them. -/
theorem run_append_ownL (base : Nat) (t ty e : TypeId) (i : TypeInfo) (z : Value) (ht : P.underlying t = some (.slice e)) (hi : P.info? e = some i) (hz : i.zero = some z)
    (hsize : i.size = 1) (hby : i.bytes = 1) (hzs : z.cells.size = 1)
    (v : Value) (n : Nat) (xs : List Value) (hown : w.ownsRow base e 1 v n xs)
    (a : Addr) (m c : Nat) (news : List Value) (hl : news.length = m) (hnews : ∀ j u, news[j]? = some u → w.cell? (a.add j) = some u) (h1 : ∀ u ∈ news, u.oneCell' = true)
    (hbytes : n + m ≤ 200000000000000) (hbase : base ≤ w.heap.size) :
    ∃ v' w', (Builtin.append_ #[t, t] ty #[v, .slice (some a) m c]).run P w = .ok v' w' ∧ w'.ownsRow base e 1 v' (n + m) (xs ++ news) ∧ w.grownBy w' v.ownBlock := by
  have h63 : n + m ≤ maxLen := by unfold maxLen; omega
  have hl' : news.length = m * i.size := by rw [hl, hsize, Nat.mul_one]
  have hxs : xs.length = n := by have := hown.1; omega
  have hxs' : xs.length = n * i.size := by rw [hxs, hsize, Nat.mul_one]
  have hlen : (xs ++ news).length = (n + m) * 1 := by rw [List.length_append, hxs, hl, Nat.mul_one]
  have grown : ∀ (old : Nat), old < n + m → ∀ (row : Option Nat),
      (w.drew.alloc (.cells (xs.toArray ++ news.toArray ++ Builtin.zeroCells z.cells (grownCap w (n + m) old e - (n + m))) e)).ownsRow base e 1
        (.slice (some ⟨w.heap.size, 0, none⟩) (n + m) (grownCap w (n + m) old e)) (n + m) (xs ++ news) ∧
      w.grownBy (w.drew.alloc (.cells (xs.toArray ++ news.toArray ++ Builtin.zeroCells z.cells (grownCap w (n + m) old e - (n + m))) e)) row := by
    intro old ho row
    have hge := grownCap_ge w (n + m) old e
    have hcm : grownCap w (n + m) old e ≤ maxLen := grownCap_le_maxLen w (n + m) old e h63
    refine ⟨⟨hlen, .inr ⟨w.heap.size, _, _, rfl, hbase, heap_alloc_new w.drew _, hge, hcm, ?_, ?_⟩⟩, ⟨rfl, rfl, rfl, by simp, fun k hk _ => Below.heap_alloc w.drew _ k hk⟩⟩
    · simp only [Array.size_append, List.size_toArray, size_zeroCells, hzs, hxs, hl]
      omega
    · simp only [Array.toList_append, List.append_assoc]
      rw [← List.append_assoc, ← hlen]
      exact List.take_left
  rcases hown.2 with ⟨rfl, rfl⟩ | ⟨g, cap, cur, rfl, hbg, hg, hnc, hcm, hcs, htake⟩
  · have hx : xs = [] := List.eq_nil_of_length_eq_zero hxs
    subst hx
    by_cases hm : m = 0
    · subst hm
      have hn : news = [] := List.eq_nil_of_length_eq_zero hl
      subst hn
      refine ⟨.slice none 0 0, w, ?_, World.ownsRow_nil w base e 1, ⟨rfl, rfl, rfl, Nat.le_refl _, fun _ _ _ => rfl⟩⟩
      simp [Builtin.append_, run_underlying ht, sizeOf, typeInfo, hi, Builtin.lenOf, Builtin.firstCells, loadCells, loadCellsFrom]
    · have hr := run_append_nil (P := P) w t ty e i z ht hi hz a m c news hl' hnews (by omega) (by omega) (by rw [hby]; omega)
      have hgr := grown 0 (by omega) (Value.ownBlock (.slice none 0 0))
      simp only [Nat.zero_add, List.nil_append, Array.empty_append] at hgr ⊢
      exact ⟨_, _, hr, hgr.1, hgr.2⟩
  · by_cases hroom : n + m ≤ cap
    · have hfit : n * i.size + news.length ≤ cur.size := by rw [hl, hcs, hsize, Nat.mul_one, Nat.mul_one]; exact hroom
      have hr := run_append_room (P := P) w t ty e i ht hi g n cap cur hg a m c news hl' hnews h1 hroom hfit
      rw [hsize, Nat.mul_one] at hr
      refine ⟨_, _, hr, ⟨hlen, .inr ⟨g, cap, _, rfl, hbg, setRow_heap w g cur _ e _ hg, hroom, hcm, ?_, ?_⟩⟩, ⟨rfl, rfl, rfl, by simp, fun k _ hk => setRow_other w g k _ (fun e => hk (by simp [Value.ownBlock, e]))⟩⟩
      · simp only [List.size_toArray, List.length_append, List.length_take, List.length_drop, Array.length_toList]
        omega
      · have ht2 : cur.toList.take n = xs := by rw [← htake, Nat.mul_one]
        rw [ht2, ← hlen]
        exact List.take_left
    · have holds : ∀ j u, xs[j]? = some u → w.cell? ((⟨g, 0, none⟩ : Addr).add j) = some u := hown.cells (g := g) rfl
      have hr := run_append_grow (P := P) w t ty e i z ht hi hz ⟨g, 0, none⟩ n cap xs hxs' holds a m c news hl' hnews (by omega) (by omega) (by rw [hby]; exact grow_fits (by omega) hbytes)
      have hgr := grown cap (by omega) (Value.ownBlock (.slice (some ⟨g, 0, none⟩) n cap))
      exact ⟨_, _, hr, hgr.1, hgr.2⟩
theorem wpList_append_ownL {ops : Array Oper} {rest : List Oper} {o : Oper} {a : Act} {Q : Exit → Act → World → Prop} (hgd : o.guard = none) (s x : Operand) (t : TypeId)
    (ho : o.op = .call { callee := .builtin .append, args := #[s, x], argTypes := #[t, t] })
    (base : Nat) (e : TypeId) (i : TypeInfo) (z : Value) (ht : P.underlying t = some (.slice e)) (hi : P.info? e = some i) (hz : i.zero = some z)
    (hsize : i.size = 1) (hby : i.bytes = 1) (hzs : z.cells.size = 1)
    (v : Value) (n : Nat) (xs : List Value) (hs : a.eval s = v) (hown : w.ownsRow base e 1 v n xs)
    (ad : Addr) (m c : Nat) (news : List Value) (hx : a.eval x = .slice (some ad) m c) (hl : news.length = m) (hnews : ∀ j u, news[j]? = some u → w.cell? (ad.add j) = some u) (h1 : ∀ u ∈ news, u.oneCell' = true)
    (hbytes : n + m ≤ 200000000000000) (hbase : base ≤ w.heap.size)
    (h : ∀ v' w', w'.ownsRow base e 1 v' (n + m) (xs ++ news) → w.grownBy w' v.ownBlock → wpList P ops Q rest (a.put o.dst v') w') : wpList P ops Q (o :: rest) a w :=
  wpList_plain hgd fun K hK => by
    obtain ⟨v', w', hr, h2, h3⟩ := run_append_ownL (P := P) w base t o.type e i z ht hi hz hsize hby hzs v n xs hown ad m c news hl hnews h1 hbytes hbase
    unfold Oper.wp execOp
    simp only [ho, resolve, invoke, builtin, Sem.run_bind, Sem.run_pure, Result.andThen_ok, List.map_toArray, List.map_cons, List.map_nil, hs, hx, hr]
    exact hK _ _ (h v' w' h2 h3)
end
end Go.Proofs.YtcffmmeafnapiaaDoor

namespace Go.Proofs.YtcffmmeafnapiaaDoor
open Go.RowKit

theorem info5 : ∃ i, Tryd.prog.info? 5 = some i ∧ i.zero = some (.int .u8 0) ∧ i.size = 1 ∧ i.bytes = 1 := by
  have h : (Tryd.prog.info? 5).map (fun i => (i.zero, i.size, i.bytes)) = some (some (.int .u8 0), 1, 1) := by kernel_rfl
  cases hq : Tryd.prog.info? 5 with
  | none => rw [hq] at h; cases h
  | some i =>
    rw [hq] at h
    simp only [Option.map_some, Option.some.injEq, Prod.mk.injEq] at h
    exact ⟨i, rfl, h.1, h.2.1, h.2.2⟩
/-- numbers as cells -/
def vals (l : List Int) : List Value := l.map fun z => Value.int .u8 z
theorem vals_one (l : List Int) : ∀ u ∈ vals l, u.oneCell' = true := by
  intro u hu
  simp only [vals, List.mem_map] at hu
  obtain ⟨z, _, rfl⟩ := hu
  rfl
theorem vals_len (l : List Int) : (vals l).length = l.length := by simp [vals]
theorem vals_append (l r : List Int) : vals l ++ vals r = vals (l ++ r) := by simp [vals]
/-- the first n of p -/
def firstL (p : Nat → Int) (n : Nat) : List Int := (List.range n).map p

theorem isMake {P : Program} {ops : Array Oper} {rest : List Oper} {o : Oper} {a : Act} {w : World} {Q : Exit → Act → World → Prop} (l c : Operand) (_ : o.op = .makeSlice 22 l c) (h : wpList P ops Q (o :: rest) a w) : wpList P ops Q (o :: rest) a w := h
theorem isApp {P : Program} {ops : Array Oper} {rest : List Oper} {o : Oper} {a : Act} {w : World} {Q : Exit → Act → World → Prop} (s x : Operand) (_ : o.op = .call { callee := .builtin .append, args := #[s, x], argTypes := #[22, 22] }) (h : wpList P ops Q (o :: rest) a w) : wpList P ops Q (o :: rest) a w := h

/-- One append to a row of the call's own. -/
theorem wpList_app {ops : Array Oper} {rest : List Oper} {o : Oper} {a : Act} {W : World} {Q : Exit → Act → World → Prop} {B n m c : Nat} {v : Value} {l r : List Int} {ad : Addr} {w0 : World} (hgd : o.guard = none) (s x : Operand)
    (ho : o.op = .call { callee := .builtin .append, args := #[s, x], argTypes := #[22, 22] })
    (hs : a.eval s = v) (hx : a.eval x = .slice (some ad) m c) (hown : W.ownsRow B 5 1 v n (vals l)) (hr : r.length = m) (hsrc : ∀ j u, (vals r)[j]? = some u → W.cell? (ad.add j) = some u)
    (hbig : n + m ≤ 200000000000000) (hb : Below B w0 W) (hB : B ≤ W.heap.size)
    (h : ∀ v' W', W'.ownsRow B 5 1 v' (n + m) (vals (l ++ r)) → Below B w0 W' → B ≤ W'.heap.size → wpList Tryd.prog ops Q rest (a.put o.dst v') W') : wpList Tryd.prog ops Q (o :: rest) a W := by
  obtain ⟨i, h1, h2, h3, h4⟩ := info5
  refine wpList_append_ownL W hgd s x 22 ho B 5 i (.int .u8 0) Tryd.underlying22 h1 h2 h3 h4 rfl v n (vals l) hs hown ad m c (vals r) hx (by rw [vals_len]; omega) hsrc (vals_one r) hbig hB ?_
  intro v' W' hown' hg
  rw [vals_append] at hown'
  exact h v' W' hown' (hb.grown hg hB (fun k hk => (hown.lt k hk).1)) (Nat.le_trans hB hg.size)

/-- The same of whatever source, nil too. -/
theorem wpList_appS {ops : Array Oper} {rest : List Oper} {o : Oper} {a : Act} {W : World} {Q : Exit → Act → World → Prop} {B n m c : Nat} {v : Value} {l r : List Int} {ao : Option Addr} {w0 : World} (hgd : o.guard = none) (s x : Operand)
    (ho : o.op = .call { callee := .builtin .append, args := #[s, x], argTypes := #[22, 22] })
    (hs : a.eval s = v) (hx : a.eval x = .slice ao m c) (hown : W.ownsRow B 5 1 v n (vals l)) (hr : r.length = m)
    (hsrc : (ao = none ∧ m = 0 ∧ c = 0) ∨ ∃ ad, ao = some ad ∧ ∀ j u, (vals r)[j]? = some u → W.cell? (ad.add j) = some u)
    (hbig : n + m ≤ 200000000000000) (hb : Below B w0 W) (hB : B ≤ W.heap.size)
    (h : ∀ v' W', W'.ownsRow B 5 1 v' (n + m) (vals (l ++ r)) → Below B w0 W' → B ≤ W'.heap.size → wpList Tryd.prog ops Q rest (a.put o.dst v') W') : wpList Tryd.prog ops Q (o :: rest) a W := by
  rcases hsrc with ⟨rfl, rfl, rfl⟩ | ⟨ad, rfl, hsrc⟩
  · obtain ⟨i, h1, _, _, _⟩ := info5
    obtain rfl : r = [] := List.eq_nil_of_length_eq_zero hr
    refine wpList_append_own_none hgd s x 22 ho B 5 i 1 Tryd.underlying22 h1 v n (vals l) hs hown hx ?_
    exact h v W (by simpa using hown) hb hB
  · exact wpList_app hgd s x ho hs hx hown hr hsrc hbig hb hB h
/-- The length in a slot. -/
def lenOf : Value → Nat | .slice _ l _ => l | _ => 0
end Go.Proofs.YtcffmmeafnapiaaDoor

namespace Go.Proofs.YtcffmmeafnapiaaDoor
open Go.RowKit

/-- The reference's state behind j blocks of P. -/
def rst (P : Nat → Int) : Nat → Nat → Int
  | 0 => hW
  | j + 1 => fun i => (rst P j i + iterR kW (sched fun b => P (64 * j + b)) (rst P j) 64 i) % 4294967296
theorem rst_succ (P : Nat → Int) (j : Nat) : rst P (j + 1) = fun i => (rst P j i + iterR kW (sched fun b => P (64 * j + b)) (rst P j) 64 i) % 4294967296 := by
  simp only [rst]
/-- The blocks of the reference's Sum. -/
structure RB (w W : World) (S Kb g T : Nat) (P s : Nat → Int) : Prop where
  r : W.heap[w.heap.size]? = some (.cells (tab8 32 fun _ => 0) 60)
  s : W.heap[S]? = some (.cells (tab32 8 s) 79)
  k : W.heap[Kb]? = some (.cells (tab32 64 kW) 105)
  m : ∀ i, i < T → W.cell? ⟨g, i, none⟩ = some (.int .u8 (P i))
  o1 : w.heap.size < S
  o2 : S < Kb
  o3 : Kb < g
  o4 : g < W.heap.size
  below : Below w.heap.size w W
theorem RB.go {w W W' : World} {S Kb g T : Nat} {P s : Nat → Int} (h : RB w W S Kb g T P s) (hb : Below W.heap.size W W') : RB w W' S Kb g T P s := by
  have h1 := h.o1
  have h2 := h.o2
  have h3 := h.o3
  have h4 := h.o4
  have h5 := hb.size
  exact ⟨by rw [hb.block _ (by omega)]; exact h.r, by rw [hb.block _ (by omega)]; exact h.s, by rw [hb.block _ (by omega)]; exact h.k, fun i hi => by rw [below_cell hb h4]; exact h.m i hi, h1, h2, h3, by omega, h.below.trans (hb.mono (by omega))⟩
theorem RB.setS {w W : World} {S Kb g T : Nat} {P s : Nat → Int} (h : RB w W S Kb g T P s) (s' : Nat → Int) : RB w (W.setRow S (tab32 8 s')) S Kb g T P s' := by
  have h1 := h.o1
  have h2 := h.o2
  have h3 := h.o3
  have h4 := h.o4
  exact ⟨by rw [setRow_other _ _ _ _ (by omega)]; exact h.r, setRow_heap _ _ _ _ _ _ h.s, by rw [setRow_other _ _ _ _ (by omega)]; exact h.k, fun i hi => by rw [cell_setRow_other _ _ _ _ (by simp; omega)]; exact h.m i hi, h1, h2, h3, by simpa using h4, below_setRow h.below (by omega) _⟩

end Go.Proofs.YtcffmmeafnapiaaDoor

namespace Go.Proofs.YtcffmmeafnapiaaDoor
open Go.RowKit

theorem sch1_congr {b b' : Nat → Int} : ∀ k, (∀ i, i < k → b i = b' i) → sch1 b k = sch1 b' k
  | 0, _ => rfl
  | k + 1, h => by simp only [sch1]; rw [sch1_congr k (fun i hi => h i (by omega)), h k (by omega)]
theorem sched_congr {b b' : Nat → Int} (h : ∀ i, i < 64 → b i = b' i) : sched b = sched b' := by
  unfold sched; rw [sch1_congr 64 h]
theorem hW_mod (i : Nat) : hW i % 4294967296 = hW i := by
  by_cases h : i < 8
  · have : ∀ j : Fin 8, hW j.val % 4294967296 = hW j.val := by decide +kernel
    exact this ⟨i, h⟩
  · have : hW i = 0 := by
      unfold hW
      rw [List.getD_eq_getElem?_getD, List.getElem?_eq_none (by simp [hList]; omega)]
      rfl
    rw [this]; rfl
theorem stW_wkG (g r : Nat → Int) : stW (wkG g r) = fun i => (stW g i + iterR kW (sched r) (stW g) 64 i) % 4294967296 := by
  funext i
  show (hW i + (g i + iterR kW (sched r) (stW g) 64 i) % 4294967296) % 4294967296 = ((hW i + g i) % 4294967296 + iterR kW (sched r) (stW g) 64 i) % 4294967296
  generalize iterR kW (sched r) (stW g) 64 i = x
  omega
theorem overlay_full (r q : Nat → Int) (i : Nat) (hi : i < 64) : overlay r 0 64 q i = q i := by
  simp [overlay, hi]
/-- Behind whole blocks. -/
theorem blocks (p P : Nat → Int) : ∀ j, (∀ i, i < 64 * j → P i = p i) → stW (addN HS.new p (64 * j)).g = rst P j ∧ (addN HS.new p (64 * j)).r = fun _ => 0
  | 0, _ => ⟨by
      funext i
      show (hW i + 0) % 4294967296 = hW i
      rw [Int.add_zero, hW_mod], rfl⟩
  | j + 1, h => by
    obtain ⟨h1, h2⟩ := blocks p P j (fun i hi => h i (by omega))
    have hn : (addN HS.new p (64 * j)).n % 64 = 0 := by rw [addN_n]; simp [HS.new]
    have hf := addN_full (addN HS.new p (64 * j)) (fun i => p (64 * j + i)) 64 (by omega) (by omega)
    rw [show 64 * (j + 1) = 64 * j + 64 by omega, addN_add, hf]
    refine ⟨?_, rfl⟩
    simp only
    rw [stW_wkG, h1, rst_succ, hn]
    have e : sched (overlay (addN HS.new p (64 * j)).r 0 64 fun i => p (64 * j + i)) = sched fun b => P (64 * j + b) := sched_congr fun i hi => by
      rw [overlay_full _ _ _ hi, h (64 * j + i) (by omega)]
    rw [e]
end Go.Proofs.YtcffmmeafnapiaaDoor

namespace Go.Proofs.YtcffmmeafnapiaaDoor
open Go.RowKit

/-- A piece of a []byte. -/
theorem SliceB.sub {w : World} {a : Option Addr} {len cap : Nat} {p : Nat → Int} (hv : SliceB w (.slice a len cap) len p) (l h : Nat) (h1 : l ≤ h) (h2 : h ≤ len) :
    SliceB w (sliced a l h cap 1) (h - l) (fun j => p (l + j)) := by
  obtain ⟨⟨a', cap', e, e1, e2, e3⟩, hp⟩ := hv
  obtain ⟨rfl, _, rfl⟩ : a = a' ∧ len = len ∧ cap = cap' := by
    injection e with x y z
    exact ⟨x, rfl, z⟩
  refine ⟨⟨_, cap - l, rfl, by omega, by omega, fun h0 => ?_⟩, fun j hj => hp (l + j) (by omega)⟩
  obtain ⟨b, off, rfl, hb, hc⟩ := e3 (by omega)
  rw [if_neg (by omega)]
  refine ⟨b, off + l, ?_, hb, fun j hj => ?_⟩
  · simp [Addr.add_mid]
  · rw [Nat.add_assoc]; exact hc (l + j) (by omega)
theorem slice_lh (a : Option Addr) (len cap l h : Nat) (h1 : l ≤ h) (h2 : h ≤ cap) (W : World) : (Instr.sliceAt 22 (.slice a len cap) (some (.int .i64 (l : Int))) (some (.int .i64 (h : Int))) none).run Tryd.prog W = .ok (sliced a l h cap 1) W := by
  have e1 : (l : Int) ≤ h := by omega
  have e2 : (h : Int) ≤ cap := by omega
  simp [Instr.sliceAt, Instr.slice, run_underlying Tryd.underlying22, Instr.sliceBounds, run_sliceBound, sliced, h1, h2]
theorem slice_h (a : Option Addr) (len cap h : Nat) (h2 : h ≤ cap) (W : World) : (Instr.sliceAt 22 (.slice a len cap) none (some (.int .i64 (h : Int))) none).run Tryd.prog W = .ok (sliced a 0 h cap 1) W := by
  have e2 : (h : Int) ≤ cap := by omega
  simp [Instr.sliceAt, Instr.slice, run_underlying Tryd.underlying22, Instr.sliceBounds, run_sliceBound, sliced, h2]
theorem slice_l (a : Option Addr) (len cap l : Nat) (h1 : l ≤ len) (W : World) : (Instr.sliceAt 22 (.slice a len cap) (some (.int .i64 (l : Int))) none none).run Tryd.prog W = .ok (sliced a l len cap 1) W := by
  have e1 : (l : Int) ≤ len := by omega
  simp [Instr.sliceAt, Instr.slice, run_underlying Tryd.underlying22, Instr.sliceBounds, run_sliceBound, sliced, h1]

theorem conv_str {w : World} {v : Value} {l : Nat} {p : Nat → Int} (h : SliceB w v l p) : (convert 22 9 v).run Tryd.prog w = .ok (.string (strOfNums (firstL p l))) w := by
  obtain ⟨⟨a, cap, rfl, h1, h2, h3⟩, hp⟩ := h
  by_cases h0 : 0 < l
  · obtain ⟨b, off, rfl, _, hc⟩ := h3 h0
    refine run_convert_bytes_arg w 22 5 Tryd.underlying22 Tryd.underlying5 b off l cap (firstL p l) (by simp [firstL]) (fun i hi => ?_) 9 Tryd.underlying9
    rw [hc i hi]
    simp [firstL, hi]
  · obtain rfl : l = 0 := by omega
    cases a with
    | none => exact run_convert_bytes_nil w 22 5 Tryd.underlying22 Tryd.underlying5 0 cap 9 Tryd.underlying9
    | some ad =>
      have hl : (loadCells ad 0).run Tryd.prog w = .ok (([] : List Int).map (Value.int .u8)).toArray w := by simpa using run_loadCells_list (P := Tryd.prog) w ad [] (by simp)
      rw [run_convert_bytes_string w 22 9 5 _ 0 cap Tryd.underlying22 Tryd.underlying5 Tryd.underlying9, run_bytesToString w _ 0 cap [] hl]
      rfl
theorem own_cap {W : World} {B n m g cap : Nat} {xs : List Value} (h : W.ownsRow B 5 1 (.slice (some ⟨g, 0, none⟩) m cap) n xs) : n ≤ cap := by
  rcases h.2 with ⟨e, _⟩ | ⟨g', cap', cur, e, _, _, hn, _⟩
  · cases e
  · cases e
    exact hn
end Go.Proofs.YtcffmmeafnapiaaDoor
