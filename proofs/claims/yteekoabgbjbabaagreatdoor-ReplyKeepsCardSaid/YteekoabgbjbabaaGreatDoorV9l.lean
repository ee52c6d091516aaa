import Derived.Test.YteekoabgbjbabaaGreatDoorX7b
import Derived.Test.YteekoabgbjbabaaGreatDoorX7f
import Derived.Test.YteekoabgbjbabaaGreatDoorO0
import Derived.Deep.RegionHeld
import Derived.Laws.IdiomStrings
import Derived.Laws.Strings2
namespace Go.Proofs.YteekoabgbjbabaaGreatDoor.Cf
open Go.RowKit Gf8 Aes By8 Cel
/- Closed frames: operations of bytes, ints, lists of bytes and lists of these. Gathered by tools/mkE9a.py. -/

section
variable {o : Oper} {a : Act} {w W : World}
theorem execAsgB {P : Program} {o : Oper} {a : Act} {w : World} {x : Operand} {v : Value} (ho : o.op = .assign x) (hx : a.eval x = v) : (execOp a.eval o).run P w = .ok (.value v) w := by
  unfold execOp
  simp only [ho, hx]
  rfl
theorem execExtT {x : Operand} {k : Nat} {arr : Array Value} {v : Value} (ho : o.op = .extract x k) (hx : a.eval x = .tuple arr) (hk : arr[k]? = some v) : (execOp a.eval o).run Tryz.prog w = .ok (.value v) w := by
  unfold execOp
  simp only [ho, hx]
  simp [go_sem, hk]
theorem execIdxL {x i : Operand} {b off n cap k : Nat} (ho : o.op = .indexAddr 22 x i) (hx : a.eval x = .slice (some ⟨b, off, none⟩) n cap) (hi : a.eval i = .int .i64 (k : Int)) (hk : k < n) : (execOp a.eval o).run Tryz.prog w = .ok (.value (.pointer (some ⟨b, off + k, none⟩))) w := by
  have h1 : (k : Int) < n := by omega
  unfold execOp
  simp only [ho, hx, hi]
  simp [go_sem, h1, Addr.add_mid]
/-- byte(x) of an int. -/
theorem execU8 {x : Operand} {n : Nat} (ho : o.op = .convert 3 5 x) (hx : a.eval x = .int .i64 (n : Int)) : (execOp a.eval o).run Tryz.prog w = .ok (.value (.int .u8 ((n % 256 : Nat) : Int))) w := by
  unfold execOp
  simp only [ho, hx]
  simp [go_sem, IntKind.wrap, show IntKind.u8.signed = false from rfl]
/-- A list whose bytes lie elsewhere, by its cells. -/
theorem lit_slice {W : World} {b N : Nat} {C : Array Value} {f : Nat → Nat} {t : TypeId} {fr : Nat × Nat} (hg : W.heap[b]? = some (.cells C t fr)) (hC : ∀ j, j < N → C[j]? = some (.int .u8 (f j))) (hf : ∀ j, j < N → f j < 256) (hN : N ≤ 1000) : SliceN W (.slice (some ⟨b, 0, none⟩) N N) N f := by
  refine ⟨⟨_, _, rfl, Nat.le_refl _, by omega, fun _ => ⟨b, 0, rfl, (Array.getElem?_eq_some_iff.1 hg).1, fun j hj => ?_⟩⟩, hf⟩
  rw [cell_of_row _ _ _ _ _ _ hg, Nat.zero_add]
  exact hC j hj
theorem takeN {w : World} {a : Option Addr} {len cap : Nat} {p : Nat → Nat} (h : SliceN w (.slice a len cap) len p) {n : Nat} (hn : n ≤ len) : SliceN w (.slice a n cap) n p := by
  obtain ⟨⟨a', cap', e, e1, e2, e3⟩, hp⟩ := h
  obtain ⟨rfl, _, rfl⟩ : a = a' ∧ len = len ∧ cap = cap' := by
    injection e with x y z
    exact ⟨x, rfl, z⟩
  refine ⟨⟨a, cap, rfl, by omega, e2, fun h0 => ?_⟩, fun j hj => hp j (by omega)⟩
  obtain ⟨b, off, rfl, hb, hc⟩ := e3 (by omega)
  exact ⟨b, off, rfl, hb, fun j hj => hc j (by omega)⟩
theorem execBsL {x : Operand} {r : Value} (ho : o.op = .buildSlice 22 1 #[(0, x)]) (hx : a.eval x = r) (hr : ∃ g n c, r = .slice g n c) : (execOp a.eval o).run Tryz.prog w = .ok (.value (.slice (some ⟨w.heap.size, 0, none⟩) 1 1)) (w.alloc (.cells #[r] 24)) := by
  obtain ⟨g, n, c, rfl⟩ := hr
  unfold execOp
  simp only [ho, List.map_toArray, List.map_cons, List.map_nil, hx]
  simp [go_sem]
/-- The values of a list of lists. -/
def lL (x : Nat → Value) : Nat → List Value
  | 0 => []
  | n + 1 => lL x n ++ [x n]
theorem lL_len (x : Nat → Value) : ∀ n, (lL x n).length = n
  | 0 => rfl
  | n + 1 => by simp [lL, lL_len x n]
theorem lL_get (x : Nat → Value) : ∀ (n k : Nat), k < n → (lL x n)[k]? = some (x k)
  | 0, k, hk => by omega
  | n + 1, k, hk => by
    simp only [lL]
    by_cases h : k < n
    · rw [List.getElem?_append_left (by rw [lL_len]; exact h)]
      exact lL_get x n k h
    · obtain rfl : k = n := by omega
      rw [List.getElem?_append_right (by rw [lL_len]; omega), lL_len]
      simp
theorem lL_congr {x y : Nat → Value} : ∀ n, (∀ i, i < n → x i = y i) → lL x n = lL y n
  | 0, _ => rfl
  | n + 1, h => by simp only [lL]; rw [lL_congr n (fun i hi => h i (by omega)), h n (by omega)]
theorem infoL8 : ∃ i, Tryz.prog.info? 24 = some i ∧ i.zero = some (.slice none 0 0) ∧ i.size = 1 ∧ i.bytes = 24 := by
  have h : (Tryz.prog.info? 24).map (fun i => (i.zero, i.size, i.bytes)) = some (some (.slice none 0 0), 1, 24) := by kernel_rfl
  cases hq : Tryz.prog.info? 24 with
  | none => rw [hq] at h; cases h
  | some i =>
    rw [hq] at h
    simp only [Option.map_some, Option.some.injEq, Prod.mk.injEq] at h
    exact ⟨i, rfl, h.1, h.2.1, h.2.2⟩
theorem execLenL {x : Operand} {ao : Option Addr} {c len : Nat} (ho : o.op = .call { callee := .builtin .len, args := #[x], argTypes := #[22] }) (hx : a.eval x = .slice ao len c) : (execOp a.eval o).run Tryz.prog w = .ok (.value (.int .i64 (len : Int))) w := by
  unfold execOp
  simp only [ho, resolve, invoke, builtin, Sem.run_bind, Sem.run_pure, Result.andThen_ok, List.map_toArray, List.map_cons, List.map_nil, hx]
  simp [go_sem]
theorem execLtW {x y : Operand} {p q : Nat} (ho : o.op = .binOp .lss 3 x y 3) (hx : a.eval x = .int .i64 (p : Int)) (hy : a.eval y = .int .i64 (q : Int)) : (execOp a.eval o).run Tryz.prog w = .ok (.value (.bool (decide (p < q)))) w := by
  unfold execOp
  simp only [ho, hx, hy]
  simp [go_sem]
theorem execAd8 {x y : Operand} {p q : Nat} (ho : o.op = .binOp .add 3 x y 3) (hx : a.eval x = .int .i64 (p : Int)) (hy : a.eval y = .int .i64 (q : Int)) (h : p + q < 9223372036854775808) : (execOp a.eval o).run Tryz.prog w = .ok (.value (.int .i64 ((p + q : Nat) : Int))) w := by
  have e : IntKind.i64.wrap ((p : Int) + (q : Int)) = ((p + q : Nat) : Int) := by rw [← Int.natCast_add]; exact wrap_i64_nat h
  unfold execOp
  simp only [ho, hx, hy]
  simp [go_sem, e]
theorem execNot8 {x : Operand} {b : Bool} (ho : o.op = .unOp .not 4 x) (hx : a.eval x = .bool b) : (execOp a.eval o).run Tryz.prog w = .ok (.value (.bool (!b))) w := by
  unfold execOp
  simp only [ho, hx]
  simp [go_sem]
theorem execBs0 (ho : o.op = .buildSlice 24 0 #[]) : (execOp a.eval o).run Tryz.prog w = .ok (.value (.slice (some ⟨w.heap.size, 0, none⟩) 0 0)) (w.alloc (.cells #[] 5)) := by
  unfold execOp
  simp only [ho]
  simp [go_sem]
theorem execBsU2 {y z : Int} (ho : o.op = .buildSlice 24 2 #[(0, .const (.int .u8 y)), (1, .const (.int .u8 z))]) : (execOp a.eval o).run Tryz.prog w = .ok (.value (.slice (some ⟨w.heap.size, 0, none⟩) 2 2)) (w.alloc (.cells #[.int .u8 y, .int .u8 z] 5)) := by
  unfold execOp
  simp only [ho, List.map_toArray, List.map_cons, List.map_nil, Act.eval]
  simp [go_sem]
/-- append to a row of one's own: the operation. -/
theorem execAppO {s x : Operand} {T e : TypeId} {i : TypeInfo} {z : Value} {size bytes B n m c : Nat} {v : Value} {xs news : List Value} {ad : Addr}
    (ho : o.op = .call { callee := .builtin .append, args := #[s, x], argTypes := #[T, T] }) (ht : Tryz.prog.underlying T = some (.slice e)) (hi : Tryz.prog.info? e = some i) (hz : i.zero = some z) (hsize : i.size = size) (hby : i.bytes = bytes) (hzs : z.cells.size = size) (hsz : 0 < size)
    (hs : a.eval s = v) (hown : W.ownsRow B e size v n xs) (hx : a.eval x = .slice (some ad) m c) (hl : news.length = m * size) (hnews : ∀ j u, news[j]? = some u → W.cell? (ad.add j) = some u) (h1 : ∀ u ∈ news, u.oneCell' = true) (h63 : n + m ≤ maxLen) (hbytes : (n + m) * bytes ≤ 140737488355328) (hB : B ≤ W.heap.size) :
    ∃ v' W', (execOp a.eval o).run Tryz.prog W = .ok (.value v') W' ∧ W'.ownsRow B e size v' (n + m) (xs ++ news) ∧ W.grownBy W' v.ownBlock := by
  obtain ⟨v', w', hr, q1, q2, _⟩ := run_append_own (P := Tryz.prog) W B T o.type e i z size bytes ht hi hz hsize hby hzs hsz v n xs hown ad m c news hl hnews h1 h63 hbytes hB
  refine ⟨v', w', ?_, q1, q2⟩
  unfold execOp
  simp only [ho, resolve, invoke, builtin, Sem.run_bind, Sem.run_pure, Result.andThen_ok, List.map_toArray, List.map_cons, List.map_nil, hs, hx, hr]
/-- append of bytes, nil or not. -/
theorem execAppN {s x : Operand} {B n m : Nat} {v u : Value} {p : Nat → Nat}
    (ho : o.op = .call { callee := .builtin .append, args := #[s, x], argTypes := #[24, 24] })
    (hs : a.eval s = v) (hx : a.eval x = u) (hown : W.ownsRow B 5 1 v n (bytesL n p)) (hu : SliceN W u m (fun j => p (n + j))) (hnil : ∀ l c, u = .slice none l c → c = 0) (hbig : n + m ≤ 140737488355328) (hB : B ≤ W.heap.size) :
    ∃ v' W', (execOp a.eval o).run Tryz.prog W = .ok (.value v') W' ∧ W'.ownsRow B 5 1 v' (n + m) (bytesL (n + m) p) ∧ W.grownBy W' v.ownBlock := by
  obtain ⟨i, h1, h2, h3, h4⟩ := info5
  obtain ⟨⟨ao, cap, rfl, _, _, hc⟩, _⟩ := hu
  cases ao with
  | none =>
    have hm : m = 0 := by
      rcases Nat.eq_zero_or_pos m with e | e
      · exact e
      · obtain ⟨_, _, e', _⟩ := hc e
        cases e'
    subst hm
    have hcap := hnil _ _ rfl
    subst hcap
    have hr := run_append_owned_none (P := Tryz.prog) W B 24 o.type 5 i 1 Tryz.underlying24 h1 v n (bytesL n p) hown
    refine ⟨v, W, ?_, hown, ⟨rfl, rfl, rfl, Nat.le_refl _, fun _ _ _ => rfl⟩⟩
    unfold execOp
    simp only [ho, resolve, invoke, builtin, Sem.run_bind, Sem.run_pure, Result.andThen_ok, List.map_toArray, List.map_cons, List.map_nil, hs, hx, hr]
  | some ad =>
    obtain ⟨v', w', hr, q1, q2⟩ := execAppO (m := m) (c := cap) (ad := ad) (xs := bytesL n p) (size := 1) (bytes := 1) (z := .int .u8 0) (news := bytesL m fun j => p (n + j)) ho Tryz.underlying24 h1 h2 h3 h4 rfl (by decide) hs hown hx (by rw [bytesL_len, Nat.mul_one]) (fun j z hz => by
      have hj : j < m := by have := (List.getElem?_eq_some_iff.1 hz).1; rw [bytesL_len] at this; exact this
      obtain ⟨b, off, e, _, e3⟩ := hc (by omega)
      obtain rfl : ad = ⟨b, off, none⟩ := Option.some.inj e
      rw [Go.WideShapes.add_plain, e3 j hj]
      rw [bytesL_at m _ hj] at hz
      exact hz) (bytesL_one _ _) (by unfold maxLen; omega) (by omega) hB
    rw [bytesL_app] at q1
    exact ⟨v', w', hr, q1, q2⟩
/-- append of lists out of a row that the call laid. -/
theorem execAppLs {s x : Operand} {B n m g : Nat} {v : Value} {xs : List Value} {ls : Array Value}
    (ho : o.op = .call { callee := .builtin .append, args := #[s, x], argTypes := #[22, 22] }) (hs : a.eval s = v) (hx : a.eval x = .slice (some ⟨g, 0, none⟩) m m) (hown : W.ownsRow B 24 1 v n xs) (hg : W.heap[g]? = some (.cells ls 24)) (hl : ls.size = m) (h1 : ∀ u ∈ ls.toList, u.oneCell' = true) (hn : n + m ≤ 1000000) (hB : B ≤ W.heap.size) :
    ∃ v' W', (execOp a.eval o).run Tryz.prog W = .ok (.value v') W' ∧ W'.ownsRow B 24 1 v' (n + m) (xs ++ ls.toList) ∧ W.grownBy W' v.ownBlock := by
  obtain ⟨i, i1, i2, i3, i4⟩ := infoL8
  exact execAppO ho Tryz.underlying22 i1 i2 i3 i4 (by simp [Value.cells]) (by decide) hs hown hx (by rw [Array.length_toList, hl, Nat.mul_one]) (fun j u hu => by
    rw [Go.WideShapes.add_plain, cell_of_row _ _ _ _ _ _ hg, Nat.zero_add]
    simpa using hu) h1 (by unfold maxLen; omega) (by omega) hB
end
theorem ret_then {K : Act → World → Prop} {Q : Exit → Act → World → Prop} {a : Act} {w : World} (h : Q .ret a w) : Exit.then K Q .ret a w := h
theorem ret_in {id : Nat} {Q : Exit → Act → World → Prop} {a : Act} {w : World} (h : Q .ret a w) : Exit.inBlock id Q .ret a w := h
/-- A row of one's own stays where another block is grown. -/
theorem ownW_grown {W W' : World} {B n s : Nat} {t : TypeId} {v : Value} {xs : List Value} {b : Option Nat} (h : W.ownsRow B t s v n xs) (hg : W.grownBy W' b) (hne : ∀ k, v.ownBlock = some k → b ≠ some k) : W'.ownsRow B t s v n xs := by
  refine ⟨h.1, ?_⟩
  rcases h.2 with h | ⟨g, cap, cur, e, hB, hgr, h1, h2, h3, h4⟩
  · exact Or.inl h
  · refine Or.inr ⟨g, cap, cur, e, hB, ?_, h1, h2, h3, h4⟩
    rw [hg.block g (Array.getElem?_eq_some_iff.1 hgr).1 (fun q => hne g (by rw [e]; rfl) q.symm)]
    exact hgr
theorem sl_h8 (g len cap h : Nat) (hh : h ≤ cap) (W : World) : (Instr.sliceAt 24 (.slice (some ⟨g, 0, none⟩) len cap) none (some (.int .i64 (h : Int))) none).run Tryz.prog W = .ok (.slice (some ⟨g, 0, none⟩) h cap) W := by
  have e := By8.slice_h (some ⟨g, 0, none⟩) len cap h hh W
  rw [sliced_0] at e
  exact e
theorem stepAppN {ops : Array Oper} {Q : Exit → Act → World → Prop} {K : Act → World → Prop} {j : Nat} {o : Oper} {a : Act} {W : World} {s x : Operand} {B n m : Nat} {v u : Value} {p : Nat → Nat} (hos : ops[j]? = some o) (hg : Region.wanted o (yielded ops a.tmps) = true)
    (ho : o.op = .call { callee := .builtin .append, args := #[s, x], argTypes := #[24, 24] }) (hs : a.eval s = v) (hx : a.eval x = u) (hown : W.ownsRow B 5 1 v n (bytesL n p)) (hu : SliceN W u m (fun j => p (n + j))) (hnil : ∀ l c, u = .slice none l c → c = 0) (hbig : n + m ≤ 140737488355328) (hB : B ≤ W.heap.size)
    (hK : ∀ v' W', W'.ownsRow B 5 1 v' (n + m) (bytesL (n + m) p) → W.grownBy W' v.ownBlock → K (a.put o.dst v') W') : wpOp Tryz.prog ops Q j K a W := by
  obtain ⟨v', W', run, q1, q2⟩ := execAppN ho hs hx hown hu hnil hbig hB
  exact stepV hos hg run (hK v' W' q1 q2)
theorem stepAppLs {ops : Array Oper} {Q : Exit → Act → World → Prop} {K : Act → World → Prop} {j : Nat} {o : Oper} {a : Act} {W : World} {s x : Operand} {B n m g : Nat} {v : Value} {xs : List Value} {ls : Array Value} (hos : ops[j]? = some o) (hgd : Region.wanted o (yielded ops a.tmps) = true)
    (ho : o.op = .call { callee := .builtin .append, args := #[s, x], argTypes := #[22, 22] }) (hs : a.eval s = v) (hx : a.eval x = .slice (some ⟨g, 0, none⟩) m m) (hown : W.ownsRow B 24 1 v n xs) (hg : W.heap[g]? = some (.cells ls 24)) (hl : ls.size = m) (h1 : ∀ u ∈ ls.toList, u.oneCell' = true) (hn : n + m ≤ 1000000) (hB : B ≤ W.heap.size)
    (hK : ∀ v' W', W'.ownsRow B 24 1 v' (n + m) (xs ++ ls.toList) → W.grownBy W' v.ownBlock → K (a.put o.dst v') W') : wpOp Tryz.prog ops Q j K a W := by
  obtain ⟨v', W', run, q1, q2⟩ := execAppLs ho hs hx hown hg hl h1 hn hB
  exact stepV hos hgd run (hK v' W' q1 q2)
theorem fam_base {B C m : Nat} {x : Nat → Value} {nn : Nat → Nat} {ff : Nat → Nat → Nat} {W : World} (h : Fam C m x nn ff W) (hB : B ≤ C) : Fam B m x nn ff W := ⟨fun t ht => own_base (h.rows t ht) hB, h.dis⟩
theorem ownQ_shape {W : World} {B n s : Nat} {t : TypeId} {v : Value} {xs : List Value} (h : W.ownsRow B t s v n xs) : ∃ a c, v = .slice a n c := by
  rcases h.2 with ⟨rfl, rfl⟩ | ⟨g, cap, cur, rfl, _⟩
  · exact ⟨_, _, rfl⟩
  · exact ⟨_, _, rfl⟩
theorem own_set8 {W : World} {B n g cap m : Nat} {p : Nat → Nat} (z : Nat) (h : W.ownsRow B 5 1 (.slice (some ⟨g, 0, none⟩) n cap) n (bytesL n p)) :
    (W.setCell ⟨g, m, none⟩ (.int .u8 z)).ownsRow B 5 1 (.slice (some ⟨g, 0, none⟩) n cap) n (bytesL n fun j => if j = m then z else p j) := by
  obtain ⟨h0, h1⟩ := h
  rcases h1 with ⟨e, _⟩ | ⟨g', cap', cur, e, hB, hg, hnc, hcm, hcs, ht⟩
  · cases e
  · injection e with e1 _ e3
    injection e1 with e1
    injection e1 with e1 _ _
    subst e1 e3
    refine ⟨by rw [bytesL_len]; omega, .inr ⟨g, cap, cur.setIfInBounds m (.int .u8 z), rfl, hB, ?_, hnc, hcm, by simpa using hcs, ?_⟩⟩
    · rw [setCell_eq_setRow W g m cur 5 _ _ hg]; exact setRow_heap _ _ _ _ _ _ hg
    · have key : ∀ j, j < n → cur.toList[j]? = some (.int .u8 (p j)) := fun j hj => by
        have e := congrArg (fun l => l[j]?) ht
        simp only [bytesL_at n p hj] at e
        rw [List.getElem?_take, if_pos (by omega)] at e
        exact e
      apply List.ext_getElem?
      intro j
      by_cases hj : j < n
      · rw [bytesL_at n _ hj, List.getElem?_take, if_pos (by omega), Array.toList_setIfInBounds, List.getElem?_set]
        by_cases hjm : m = j
        · subst hjm
          have lc := (List.getElem?_eq_some_iff.1 (key m hj)).1
          rw [if_pos rfl, if_pos (by omega), if_pos rfl]
        · rw [if_neg hjm, key j hj, if_neg (fun e => hjm e.symm)]
      · rw [List.getElem?_eq_none (by rw [List.length_take]; omega), List.getElem?_eq_none (by rw [bytesL_len]; omega)]
theorem fam_set8 {B m g cap j : Nat} {x : Nat → Value} {nn : Nat → Nat} {ff : Nat → Nat → Nat} {W : World} (h : Fam B m x nn ff W) {i : Nat} (hi : i < m) (hx : x i = .slice (some ⟨g, 0, none⟩) (nn i) cap) (z : Nat) :
    Fam B m x nn (fun t => if t = i then (fun l => if l = j then z else ff i l) else ff t) (W.setCell ⟨g, j, none⟩ (.int .u8 z)) := by
  have hr := h.rows i hi
  rw [hx] at hr
  obtain ⟨c, hc⟩ := own_type hr (k := g) rfl
  refine ⟨fun t ht => ?_, h.dis⟩
  by_cases e : t = i
  · subst e
    simp only [if_true]
    rw [hx]
    exact own_set8 z hr
  · simp only [if_neg e]
    exact own_stays (h.rows t ht) hc (fun q => h.dis t i ht hi e g q (by rw [hx]; rfl))
theorem fam_cg8 {B m : Nat} {x : Nat → Value} {nn : Nat → Nat} {ff gg : Nat → Nat → Nat} {W : World} (h : Fam B m x nn ff W) (e : ∀ t, t < m → ∀ l, l < nn t → ff t l = gg t l) : Fam B m x nn gg W :=
  ⟨fun t ht => by have h2 := h.rows t ht; rw [bytesL_congr (e t ht)] at h2; exact h2, h.dis⟩
theorem own_at8 {W : World} {B n g cap j : Nat} {p : Nat → Nat} (h : W.ownsRow B 5 1 (.slice (some ⟨g, 0, none⟩) n cap) n (bytesL n p)) (hj : j < n) : W.cell? ⟨g, j, none⟩ = some (.int .u8 (p j)) := by
  obtain ⟨g', cap', e, _, _, hc⟩ := own_cells h (by omega)
  injection e with e1 _ _
  injection e1 with e1
  injection e1 with e1 _ _
  subst e1
  exact hc j hj
/-- A row of another kind stays when a byte is set. -/
theorem ownW_setCell {W : World} {B n s g k : Nat} {t : TypeId} {v z : Value} {xs : List Value} {c : Array Value} (h : W.ownsRow B t s v n xs) (hg : W.heap[g]? = some (.cells c 5)) (ht : t ≠ 5) : (W.setCell ⟨g, k, none⟩ z).ownsRow B t s v n xs := by
  refine ⟨h.1, ?_⟩
  rcases h.2 with h | ⟨r, cap, cur, e, hB, hgr, h1⟩
  · exact Or.inl h
  · refine Or.inr ⟨r, cap, cur, e, hB, ?_, h1⟩
    have ne : r ≠ g := fun e => by
      rw [e, hg] at hgr
      injection hgr with hgr
      injection hgr with _ e5
      exact ht e5.symm
    rw [setCell_eq_setRow W g k c 5 _ _ hg, setRow_other _ _ _ _ ne]
    exact hgr
/-- append, and the room that it leaves: the operation. -/
theorem execApp8 {o : Oper} {a : Act} {W : World} {B n m g c : Nat} {v : Value} {p : Nat → Nat} {s x : Operand}
    (ho : o.op = .call { callee := .builtin .append, args := #[s, x], argTypes := #[24, 24] })
    (hs : a.eval s = v) (hx : a.eval x = .slice (some ⟨g, 0, none⟩) m c) (hown : W.ownsRow B 5 1 v n (bytesL n p)) (hsrc : ∀ j, j < m → W.cell? ⟨g, j, none⟩ = some (.int .u8 (p (n + j))))
    (hbig : n + m ≤ 200000000000000) (hB : B ≤ W.heap.size) :
    ∃ v' W', (execOp a.eval o).run Tryz.prog W = .ok (.value v') W' ∧ W'.ownsRow B 5 1 v' (n + m) (bytesL (n + m) p) ∧ ((v'.ownBlock = v.ownBlock ∧ W.grownBy W' v.ownBlock ∧ capV v' = capV v) ∨ (v'.ownBlock = some W.heap.size ∧ W.grownBy W' none)) := by
  obtain ⟨i, h1, h2, h3, h4⟩ := info5
  obtain ⟨v', w', hr, q1, q2⟩ := run_append_ownR (P := Tryz.prog) W B 24 o.type 5 i (.int .u8 0) Tryz.underlying24 h1 h2 h3 h4 rfl v n (bytesL n p) hown ⟨g, 0, none⟩ m c (bytesL m fun j => p (n + j)) (bytesL_len _ _) (by
    intro j u hu
    have hj : j < m := by have := (List.getElem?_eq_some_iff.1 hu).1; rw [bytesL_len] at this; exact this
    rw [Addr.add_mid, Nat.zero_add, hsrc j hj]
    rw [bytesL_at m _ hj] at hu
    exact hu) (bytesL_one _ _) hbig hB
  rw [bytesL_app] at q1
  refine ⟨v', w', ?_, q1, q2⟩
  unfold execOp
  simp only [ho, resolve, invoke, builtin, Sem.run_bind, Sem.run_pure, Result.andThen_ok, List.map_toArray, List.map_cons, List.map_nil, hs, hx, hr]
theorem row_ne8 {W : World} {B B2 n m s k : Nat} {v u : Value} {xs ys : List Value} {t : TypeId} (h : W.ownsRow B 5 1 v n xs) (ho : W.ownsRow B2 t s u m ys) (ht : t ≠ 5) (hk : u.ownBlock = some k) : v.ownBlock ≠ some k := by
  rcases ho.2 with ⟨rfl, _⟩ | ⟨g, cap, cur, rfl, _, hg, _⟩
  · cases hk
  · obtain rfl : g = k := Option.some.inj hk
    exact fun q => own_ne h hg ht q.symm
section
variable {o : Oper} {a : Act} {w W : World}
/-- A list is laid into a row of lists. -/
theorem execStL {x v : Operand} {b k : Nat} {u old : Value} (ho : o.op = .store 24 x v) (hx : a.eval x = .pointer (some ⟨b, k, none⟩)) (hv : a.eval v = u) (hu : ∃ g n c, u = .slice g n c) (hc : w.cell? ⟨b, k, none⟩ = some old) (hf : w.frozen? ⟨b, k, none⟩ = false) : (execOp a.eval o).run Tryz.prog w = .ok .skip (w.setCell ⟨b, k, none⟩ u) := by
  obtain ⟨g, n, c, rfl⟩ := hu
  unfold execOp
  simp only [ho, hx, hv]
  simp [go_sem, hc, hf]
/-- pick where the value that is not taken does not matter. -/
theorem execPickT {x y z : Operand} {v : Value} (ho : o.op = .pick x y z) (hx : a.eval x = .bool true) (hy : a.eval y = v) : (execOp a.eval o).run Tryz.prog w = .ok (.value v) w := by
  unfold execOp
  simp only [ho, hx, hy]
  simp [go_sem]
theorem execPickF {x y z : Operand} {v : Value} (ho : o.op = .pick x y z) (hx : a.eval x = .bool false) (hz : a.eval z = v) : (execOp a.eval o).run Tryz.prog w = .ok (.value v) w := by
  unfold execOp
  simp only [ho, hx, hz]
  simp [go_sem]
theorem execGe8 {x y : Operand} {p q : Nat} (ho : o.op = .binOp .geq 3 x y 3) (hx : a.eval x = .int .i64 (p : Int)) (hy : a.eval y = .int .i64 (q : Int)) : (execOp a.eval o).run Tryz.prog w = .ok (.value (.bool (decide (q ≤ p)))) w := by
  unfold execOp
  simp only [ho, hx, hy]
  simp [go_sem]
end
end Go.Proofs.YteekoabgbjbabaaGreatDoor.Cf

namespace Go.Proofs.YteekoabgbjbabaaGreatDoor.Dro
/- Dead drops over Nat: names nothing of a program. -/

/-- How many k below n keep p. -/
def cnt (p : Nat → Bool) : Nat → Nat
  | 0 => 0
  | n + 1 => cnt p n + (if p n then 1 else 0)
/-- The first k below n that keeps p (n: none). -/
def fst_ (p : Nat → Bool) : Nat → Nat
  | 0 => 0
  | n + 1 => if cnt p n = 0 then (if p n then n else n + 1) else fst_ p n
theorem cnt_zero {p : Nat → Bool} {n : Nat} : cnt p n = 0 ↔ ∀ k, k < n → p k = false := by
  induction n with
  | zero => exact ⟨fun _ k hk => absurd hk (Nat.not_lt_zero _), fun _ => rfl⟩
  | succ n ih =>
    unfold cnt
    constructor
    · intro h k hk
      have h1 : cnt p n = 0 := by omega
      by_cases e : k = n
      · subst e
        cases q : p k
        · rfl
        · rw [q, if_pos rfl] at h; omega
      · exact ih.1 h1 k (by omega)
    · intro h
      rw [ih.2 fun k hk => h k (by omega), h n (by omega)]
      rfl
theorem fst_is {p : Nat → Bool} {n : Nat} (h : 0 < cnt p n) : fst_ p n < n ∧ p (fst_ p n) = true ∧ ∀ k, k < fst_ p n → p k = false := by
  induction n with
  | zero => exact absurd h (Nat.lt_irrefl _)
  | succ n ih =>
    unfold fst_
    by_cases e : cnt p n = 0
    · rw [if_pos e]
      have q : p n = true := by
        cases q : p n
        · unfold cnt at h; rw [q, e] at h; exact absurd h (Nat.lt_irrefl _)
        · rfl
      rw [q, if_pos rfl]
      exact ⟨by omega, q, fun k hk => cnt_zero.1 e k hk⟩
    · rw [if_neg e]
      obtain ⟨h1, h2, h3⟩ := ih (by omega)
      exact ⟨by omega, h2, h3⟩
theorem cnt_one {p : Nat → Bool} {n : Nat} (h : cnt p n = 1) {k : Nat} (hk : k < n) (hp : p k = true) : k = fst_ p n := by
  induction n with
  | zero => omega
  | succ n ih =>
    unfold fst_
    unfold cnt at h
    by_cases e : cnt p n = 0
    · rw [if_pos e]
      by_cases e2 : k = n
      · subst e2; rw [hp, if_pos rfl]
      · rw [cnt_zero.1 e k (by omega)] at hp; cases hp
    · rw [if_neg e]
      have q : p n = false := by
        cases q : p n
        · rfl
        · rw [q, if_pos rfl] at h; omega
      rw [q] at h
      have h1 : cnt p n = 1 := by simpa using h
      by_cases e2 : k = n
      · subst e2; rw [q] at hp; cases hp
      · exact ih h1 (by omega)
theorem cnt_succ {p : Nat → Bool} {n : Nat} : cnt p (n + 1) = cnt p n + (if p n then 1 else 0) := rfl

/-- Is it a request, by its length? -/
def rgt (l : Nat) : Bool := decide (8 ≤ l ∧ l ≤ 48)
/-- The same name? -/
def nmQ (a b : Nat → Nat) : Bool := (List.range 8).all fun j => a j == b j
theorem nm_iff {a b : Nat → Nat} : nmQ a b = true ↔ ∀ j, j < 8 → a j = b j := by
  unfold nmQ
  simp [List.all_eq_true]
/-- Is k another request at the drop of i? -/
def otQ (ln : Nat → Nat) (c : Nat → Nat → Nat) (i k : Nat) : Bool := decide (k ≠ i) && (rgt (ln k) && nmQ (c k) (c i))
/-- How an answer comes about. -/
def kdF (n : Nat) (ln : Nat → Nat) (c : Nat → Nat → Nat) (i : Nat) : Nat := if rgt (ln i) then min (cnt (otQ ln c i) n) 2 else 3
/-- The other one. -/
def paF (n : Nat) (ln : Nat → Nat) (c : Nat → Nat → Nat) (i : Nat) : Nat := fst_ (otQ ln c i) n
/-- An answer's length, and its bytes. -/
def xL (n : Nat) (ln : Nat → Nat) (c : Nat → Nat → Nat) (i : Nat) : Nat := if kdF n ln c i = 1 then 1 + (ln (paF n ln c i) - 8) else 1
def xF (n : Nat) (ln : Nat → Nat) (c : Nat → Nat → Nat) (i j : Nat) : Nat := if j = 0 then kdF n ln c i else c (paF n ln c i) (8 + (j - 1))
theorem rgt_iff {l : Nat} : rgt l = true ↔ 8 ≤ l ∧ l ≤ 48 := by unfold rgt; exact decide_eq_true_iff
theorem ot_iff {ln : Nat → Nat} {c : Nat → Nat → Nat} {i k : Nat} : otQ ln c i k = true ↔ k ≠ i ∧ (8 ≤ ln k ∧ ln k ≤ 48) ∧ ∀ j, j < 8 → c k j = c i j := by
  unfold otQ
  rw [Bool.and_eq_true, Bool.and_eq_true, decide_eq_true_iff, rgt_iff, nm_iff]
/-- Who met somebody. -/
theorem met {n : Nat} {ln : Nat → Nat} {c : Nat → Nat → Nat} {i : Nat} (h : kdF n ln c i = 1) : rgt (ln i) = true ∧ cnt (otQ ln c i) n = 1 ∧ paF n ln c i < n ∧ otQ ln c i (paF n ln c i) = true := by
  unfold kdF at h
  split at h
  · rename_i q
    have h1 : cnt (otQ ln c i) n = 1 := by omega
    obtain ⟨h2, h3, _⟩ := fst_is (p := otQ ln c i) (n := n) (by omega)
    exact ⟨q, h1, h2, h3⟩
  · omega
end Go.Proofs.YteekoabgbjbabaaGreatDoor.Dro

namespace Go.Proofs.YteekoabgbjbabaaGreatDoor.Tap
open Go.RowKit Gf8 Aes By8 Cel Cf
/- What goes through the law's apart: lists of any lengths. -/

/-- The blocks of m lists. -/
def Gx (m : Nat) (x : Nat → Value) (k : Nat) : Prop := ∃ t, t < m ∧ (x t).ownBlock = some k
/-- All lists ahead of i are marked, and list i up to byte k. -/
def mkA (f : Nat → Nat → Nat) (i k t : Nat) : Nat → Nat := fun l => if t < i ∨ (t = i ∧ l < k) then t % 256 else f t l
theorem run_mkL (n : Nat) (hn : n ≤ 1000000) (W : World) : (Instr.makeSlice 22 (.int .i64 (n : Int)) (.int .i64 (n : Int))).run Tryz.prog W = .ok (.slice (some ⟨W.heap.size, 0, none⟩) n n) (W.alloc (.cells (madeCells #[.slice none 0 0] n) 24)) := by
  obtain ⟨i, h1, h2, h3, h4⟩ := infoB
  have h := run_make (P := Tryz.prog) W 22 24 i (.slice none 0 0) Tryz.underlying22 h1 h2 .i64 .i64 (n : Int) (n : Int) (by omega) (by omega) (by rw [h4]; omega) (by omega)
  rw [h3, Int.toNat_natCast, Nat.mul_one] at h
  exact h
theorem apn_cg {B m : Nat} {nn : Nat → Nat} {x : Nat → Value} {ff : Nat → Nat → Nat} {zz : Nat → Nat} {gv : Nat → Value} {gl gl' : Nat → Nat} {W : World} (h : ApN B m nn x ff zz gv gl W) (e : ∀ t, t < m → gl t = gl' t) : ApN B m nn x ff zz gv gl' W :=
  ⟨h.fam, fun t ht => by rw [← e t ht]; exact h.grown t ht, fun t ht => by rw [← e t ht]; exact h.le t ht, h.at', h.dis⟩
structure MoN (B m : Nat) (nn : Nat → Nat) (x gv : Nat → Value) (gl : Nat → Nat) (mo : Nat → Value) (R : Nat) (V W : World) : Prop where
  ap : ApN B m nn x (fun t _ => t % 256) (fun t => (t + 140) % 256) gv gl W
  sv : Saved (Gx m x) V W
  row : ∃ c, W.heap[R]? = some (.cells c 24) ∧ c.size = m ∧ ∀ t, t < m → c[t]? = some (mo t)
  new : V.heap.size ≤ R
  pl : ∀ t, t < m → ∀ k, (gv t).ownBlock = some k → V.heap.size ≤ k ∨ Gx m x k
section
variable {B m : Nat} {nn : Nat → Nat} {x gv : Nat → Value} {gl : Nat → Nat} {mo : Nat → Value} {R : Nat} {V W W' : World}
theorem MoN.cg {gl' : Nat → Nat} {mo' : Nat → Value} (h : MoN B m nn x gv gl mo R V W) (e : ∀ t, t < m → gl t = gl' t) (e' : ∀ t, t < m → mo t = mo' t) : MoN B m nn x gv gl' mo' R V W :=
  ⟨apn_cg h.ap e, h.sv, by obtain ⟨c, h1, h2, h3⟩ := h.row; exact ⟨c, h1, h2, fun t ht => by rw [← e' t ht]; exact h3 t ht⟩, h.new, h.pl⟩
theorem MoN.on (h : MoN B m nn x gv gl mo R V W) (hb : Below W.heap.size W W') : MoN B m nn x gv gl mo R V W' :=
  ⟨h.ap.on hb, h.sv.below hb h.sv.size, by obtain ⟨c, h1, h2, h3⟩ := h.row; exact ⟨c, by rw [hb.block _ (Array.getElem?_eq_some_iff.1 h1).1]; exact h1, h2, h3⟩, h.new, h.pl⟩
theorem MoN.grow (h : MoN B m nn x gv gl mo R V W) {i k : Nat} (hi : i < m) {v' : Value}
    (hv : W'.ownsRow B 5 1 v' (gl i + k) (bytesL (gl i + k) (gM (fun _ => i % 256) (nn i) ((i + 140) % 256)))) (hp : (v'.ownBlock = (gv i).ownBlock ∧ W.grownBy W' (gv i).ownBlock ∧ capV v' = capV (gv i)) ∨ (v'.ownBlock = some W.heap.size ∧ W.grownBy W' Option.none)) :
    MoN B m nn x (updX gv i v') (fun t => if t = i then gl i + k else gl t) mo R V W' := by
  refine ⟨h.ap.grow hi hv hp, ?_, ?_, h.new, fun t ht b hb => ?_⟩
  · rcases hp with ⟨_, hg, _⟩ | ⟨_, hg⟩
    · exact h.sv.grown hg (h.pl i hi)
    · exact h.sv.grown hg (fun k e => by cases e)
  · obtain ⟨c, h1, h2, h3⟩ := h.row
    refine ⟨c, ?_, h2, h3⟩
    rcases hp with ⟨_, hg, _⟩ | ⟨_, hg⟩
    · rw [hg.block _ (Array.getElem?_eq_some_iff.1 h1).1 (own_ne (h.ap.grown i hi) h1 (by decide))]
      exact h1
    · rw [hg.block _ (Array.getElem?_eq_some_iff.1 h1).1 (by simp)]
      exact h1
  · by_cases e : t = i
    · subst e
      rw [updX_at] at hb
      rcases hp with ⟨e, _⟩ | ⟨e, _⟩
      · exact h.pl t ht b (by rw [← e]; exact hb)
      · rw [e] at hb
        have := Option.some.inj hb
        have := h.sv.size
        exact Or.inl (by omega)
    · unfold updX at hb
      rw [if_neg e] at hb
      exact h.pl t ht b hb
/-- A list that has been grown is laid into the list of lists. -/
theorem MoN.put (h : MoN B m nn x gv gl mo R V W) (i : Nat) (u : Value) : MoN B m nn x gv gl (updX mo i u) R V (W.setCell ⟨R, i, none⟩ u) := by
  obtain ⟨c, h1, h2, h3⟩ := h.row
  refine ⟨h.ap.cell h1, h.sv.cell _ (Or.inl h.new), ⟨c.setIfInBounds i u, heap4 _ h1, by rw [Array.size_setIfInBounds]; exact h2, fun t ht => ?_⟩, h.new, h.pl⟩
  rw [Array.getElem?_setIfInBounds]
  unfold updX
  by_cases e : i = t
  · subst e
    rw [if_pos rfl, if_pos rfl, if_pos (by omega)]
  · rw [if_neg e, if_neg (fun q => e q.symm)]
    exact h3 t ht
theorem MoN.at (h : MoN B m nn x gv gl mo R V W) {i : Nat} (hi : i < m) : W.cell? ⟨R, i, none⟩ = some (mo i) ∧ W.frozen? ⟨R, i, none⟩ = false := by
  obtain ⟨c, h1, h2, h3⟩ := h.row
  exact ⟨by rw [cell_of_row _ _ _ _ _ _ h1]; exact h3 i hi, frozen4 h1⟩
end
end Go.Proofs.YteekoabgbjbabaaGreatDoor.Tap

namespace Go.Proofs.YteekoabgbjbabaaGreatDoor.Tap
open Go.RowKit Gf8 Aes By8 Cel Cf
/- The law's apart: the lists are marked. Written by tools/mkV9c.py. -/

structure AA (U : Value) (a : Act) : Prop where
  sz : a.tmps.size = 137
  df : a.defers = []
  t0 : a.eval (.tmp 0) = U
theorem AA.keep {U : Value} {a a' : Act} {ds : List Nat} (h : AA U a) (hs : a'.tmps.size = 137) (hd : a'.defers = a.defers) (hf : ∀ e, e ∉ ds → a'.eval (.tmp e) = a.eval (.tmp e)) (hk : ([0] : List Nat).all (fun k => !ds.contains k) = true) : AA U a' := by
  have hk2 : ∀ k, k ∈ ([0] : List Nat) → k ∉ ds := fun k hk1 => by
    have := List.all_eq_true.1 hk k hk1
    simpa using this
  exact ⟨hs, hd.trans h.df, (hf 0 (hk2 0 (by simp))).trans h.t0⟩
end Go.Proofs.YteekoabgbjbabaaGreatDoor.Tap

namespace Go.Proofs.YteekoabgbjbabaaGreatDoor.Tap
open Go.RowKit Gf8 Aes By8 Cel Cf
/- The law's apart: lists that are grown. -/

theorem execMkL {o : Oper} {a : Act} {w : World} {n : Nat} {x y : Operand} (ho : o.op = .makeSlice 22 x y) (hx : a.eval x = .int .i64 (n : Int)) (hy : a.eval y = .int .i64 (n : Int)) (hn : n ≤ 1000000) :
    (execOp a.eval o).run Tryz.prog w = .ok (.value (.slice (some ⟨w.heap.size, 0, none⟩) n n)) (w.alloc (.cells (madeCells #[.slice none 0 0] n) 24)) := by
  unfold execOp
  simp only [ho, hx, hy, Sem.run_bind, run_mkL n hn, Result.andThen_ok, Sem.run_pure]
/-- All ahead of i are grown by hi bytes, the others by lo; what lies in the list of lists. -/
structure GSt (B m : Nat) (nn : Nat → Nat) (x : Nat → Value) (R : Nat) (V W : World) (lo hi : Nat) (pre : Prop) (i : Nat) (gv : Nat → Value) (gl : Nat → Nat) (mo : Nat → Value) : Prop where
  mn : MoN B m nn x gv gl mo R V W
  len : ∀ t, t < m → gl t = nn t + (if t < i then hi else lo)
  done : ∀ t, t < m → t < i → mo t = gv t
  todo : ∀ t, t < m → i ≤ t → (pre → mo t = gv t) ∧ (¬ pre → gv t = x t)
/-- The i-th is being grown: v, of n' bytes. -/
structure GI (B m : Nat) (nn : Nat → Nat) (x : Nat → Value) (R : Nat) (V W : World) (lo hi : Nat) (pre : Prop) (i n' : Nat) (v : Value) (gv : Nat → Value) (gl : Nat → Nat) (mo : Nat → Value) : Prop where
  mn : MoN B m nn x gv gl mo R V W
  v_ : gv i = v
  n_ : gl i = n'
  len : ∀ t, t < m → t ≠ i → gl t = nn t + (if t < i then hi else lo)
  done : ∀ t, t < m → t < i → mo t = gv t
  todo : ∀ t, t < m → i < t → (pre → mo t = gv t) ∧ (¬ pre → gv t = x t)
section
variable {B m : Nat} {nn : Nat → Nat} {x : Nat → Value} {R : Nat} {V W W' : World} {lo hi : Nat} {pre : Prop} {i n' : Nat} {v : Value} {gv : Nat → Value} {gl : Nat → Nat} {mo : Nat → Value}
theorem GSt.start (h : GSt B m nn x R V W lo hi pre i gv gl mo) (hi' : i < m) : GI B m nn x R V W lo hi pre i (nn i + lo) (gv i) gv gl mo :=
  ⟨h.mn, rfl, by rw [h.len i hi', if_neg (by omega)], fun t ht _ => h.len t ht, h.done, fun t ht hl => h.todo t ht (by omega)⟩
theorem GI.on (h : GI B m nn x R V W lo hi pre i n' v gv gl mo) (hb : Below W.heap.size W W') : GI B m nn x R V W' lo hi pre i n' v gv gl mo := ⟨h.mn.on hb, h.v_, h.n_, h.len, h.done, h.todo⟩
theorem GI.own (h : GI B m nn x R V W lo hi pre i n' v gv gl mo) (hi' : i < m) : W.ownsRow B 5 1 v n' (bytesL n' (gM (fun _ => i % 256) (nn i) ((i + 140) % 256))) := by
  have := h.mn.ap.grown i hi'
  rw [h.v_, h.n_] at this
  exact this
theorem GI.put (h : GI B m nn x R V W lo hi pre i (nn i + hi) v gv gl mo) : GSt B m nn x R V (W.setCell ⟨R, 0 + i, none⟩ v) lo hi pre (i + 1) gv gl (updX mo i v) := by
  rw [Nat.zero_add]
  refine ⟨h.mn.put i v, fun t ht => ?_, fun t ht hl => ?_, fun t ht hl => ?_⟩
  · by_cases e : t = i
    · rw [e, h.n_, if_pos (by omega)]
    · rw [h.len t ht e]
      by_cases q : t < i
      · rw [if_pos q, if_pos (by omega)]
      · rw [if_neg q, if_neg (by omega)]
  · by_cases e : t = i
    · rw [e, updX_at, h.v_]
    · unfold updX
      rw [if_neg e]
      exact h.done t ht (by omega)
  · have e : t ≠ i := by omega
    unfold updX
    rw [if_neg e]
    exact h.todo t ht (by omega)
theorem GI.grow (h : GI B m nn x R V W lo hi pre i n' v gv gl mo) (hi' : i < m) {k : Nat} {v' : Value} (hv : W'.ownsRow B 5 1 v' (n' + k) (bytesL (n' + k) (gM (fun _ => i % 256) (nn i) ((i + 140) % 256)))) (hp : (v'.ownBlock = v.ownBlock ∧ W.grownBy W' v.ownBlock ∧ capV v' = capV v) ∨ (v'.ownBlock = some W.heap.size ∧ W.grownBy W' Option.none)) :
    GI B m nn x R V W' lo hi pre i (n' + k) v' (updX gv i v') (fun t => if t = i then gl i + k else gl t) mo := by
  refine ⟨h.mn.grow hi' (by rw [h.n_]; exact hv) (by rw [h.v_]; exact hp), updX_at _ _ _, by show (if i = i then gl i + k else gl i) = _; rw [if_pos rfl, h.n_], fun t ht hne => ?_, fun t ht hl => ?_, fun t ht hl => ?_⟩
  · show (if t = i then gl i + k else gl t) = _
    rw [if_neg hne]
    exact h.len t ht hne
  · have e : t ≠ i := by omega
    unfold updX
    rw [if_neg e]
    exact h.done t ht hl
  · have e : t ≠ i := by omega
    unfold updX
    rw [if_neg e]
    exact h.todo t ht hl
end
theorem GSt.begin {B m : Nat} {nn : Nat → Nat} {x : Nat → Value} {f : Nat → Nat → Nat} {V W : World} (FA : Fam B m x nn (mkA f m 0) W) (SV : Saved (Gx m x) V W) :
    GSt B m nn x W.heap.size V (W.alloc (.cells (madeCells #[.slice none 0 0] m) 24)) 0 8 False 0 x nn (fun _ => .slice none 0 0) := by
  have FA' : Fam B m x nn (fun t _ => t % 256) W := fam_cg8 FA fun t ht l _ => by unfold mkA; rw [if_pos (by omega)]
  refine ⟨⟨(ApN.begin FA').on (belNew W _), SV.below (belNew W _) SV.size, ⟨_, heapNew W _, by simp [madeCells], fun t ht => by simp [madeCells, ht, Nat.mod_one]⟩, SV.size, fun t ht k hk => .inr ⟨t, ht, hk⟩⟩, fun t ht => by rw [if_neg (by omega)]; rfl, fun t _ q => by omega, fun t ht _ => ⟨fun q => q.elim, fun _ => rfl⟩⟩
end Go.Proofs.YteekoabgbjbabaaGreatDoor.Tap

namespace Go.Proofs.YteekoabgbjbabaaGreatDoor.Tap
open Go.RowKit Gf8 Aes By8 Cel Cf
/- The law's apart: the lists are grown. Written by tools/mkV9e.py. -/

theorem GSt.again {B m : Nat} {nn : Nat → Nat} {x : Nat → Value} {R : Nat} {V W : World} {gv : Nat → Value} {gl : Nat → Nat} {mo : Nat → Value} (h : GSt B m nn x R V W 0 8 False m gv gl mo) : GSt B m nn x R V W 8 128 True 0 gv gl mo :=
  ⟨h.mn, fun t ht => by rw [h.len t ht, if_pos ht, if_neg (by omega)], fun t _ q => by omega, fun t ht _ => ⟨fun _ => h.done t ht ht, fun q => absurd trivial q⟩⟩
end Go.Proofs.YteekoabgbjbabaaGreatDoor.Tap

namespace Go.Proofs.YteekoabgbjbabaaGreatDoor.Tap
open Go.RowKit Gf8 Aes By8 Cel Cf
/- Strings of bytes: one of them, a piece, and back to a list; rows that bear a conversion's mark. -/

section
variable {o : Oper} {a : Act} {w : World}
end
/-- A row of bytes of one's own; it may bear a mark behind its cells. -/
def OwnM (W : World) (B : Nat) (v : Value) (n : Nat) (p : Nat → Nat) : Prop :=
  ∃ g cap cur fz, v = .slice (some ⟨g, 0, none⟩) n cap ∧ B ≤ g ∧ W.heap[g]? = some (.cells cur 5 fz) ∧ n ≤ cap ∧ cap ≤ maxLen ∧ cur.size = cap ∧ (∀ j, j < n → cur[j]? = some (.int .u8 (p j : Nat))) ∧ (∀ j, j < n → p j < 256) ∧ (cap ≤ fz.1 ∨ fz.2 = 0)
theorem OwnM.slice {W : World} {B n : Nat} {v : Value} {p : Nat → Nat} (h : OwnM W B v n p) : SliceN W v n p := by
  obtain ⟨g, cap, cur, fz, rfl, hB, hg, h1, h2, h3, h4, h5, h6⟩ := h
  refine ⟨⟨_, _, rfl, h1, by unfold maxLen at h2; omega, fun _ => ⟨g, 0, rfl, (Array.getElem?_eq_some_iff.1 hg).1, fun j hj => ?_⟩⟩, h5⟩
  rw [cell_of_row _ _ _ _ _ _ hg, Nat.zero_add]
  exact h4 j hj
theorem OwnM.on {W W' : World} {B n : Nat} {v : Value} {p : Nat → Nat} (h : OwnM W B v n p) (hb : Below W.heap.size W W') : OwnM W' B v n p := by
  obtain ⟨g, cap, cur, fz, rfl, hB, hg, hr⟩ := h
  exact ⟨g, cap, cur, fz, rfl, hB, by rw [hb.block _ (Array.getElem?_eq_some_iff.1 hg).1]; exact hg, hr⟩
theorem OwnM.base {W : World} {B C n : Nat} {v : Value} {p : Nat → Nat} (h : OwnM W C v n p) (hB : B ≤ C) : OwnM W B v n p := by
  obtain ⟨g, cap, cur, fz, e, h1, hr⟩ := h
  exact ⟨g, cap, cur, fz, e, Nat.le_trans hB h1, hr⟩
end Go.Proofs.YteekoabgbjbabaaGreatDoor.Tap

namespace Go.Proofs.YteekoabgbjbabaaGreatDoor.Tap
open Go.RowKit Gf8 Aes By8 Cel Cf
/- The program's Byte and Take. Written by tools/mkV9l.py. -/

theorem on9 {W X : World} {g : Nat} {c : Obj} (h : W.heap[g]? = some c) (b : Below W.heap.size W X) : X.heap[g]? = some c := by rw [b.block _ (Array.getElem?_eq_some_iff.1 h).1]; exact h
section
variable {o : Oper} {a : Act} {w : World}
theorem execEqN {x y : Operand} {p q : Nat} (ho : o.op = .binOp .eql 3 x y 3) (hx : a.eval x = .int .i64 (p : Int)) (hy : a.eval y = .int .i64 (q : Int)) : (execOp a.eval o).run Tryz.prog w = .ok (.value (.bool (decide (p = q)))) w := by
  unfold execOp
  simp only [ho, hx, hy]
  by_cases h : p = q
  · subst h
    simp [go_sem]
  · have h2 : ¬ (p : Int) = q := by omega
    simp [go_sem, h, h2]
theorem execEqE {x y : Operand} {p q : Nat} (ho : o.op = .binOp .eql 28 x y 28) (hx : a.eval x = .int .i64 (p : Int)) (hy : a.eval y = .int .i64 (q : Int)) : (execOp a.eval o).run Tryz.prog w = .ok (.value (.bool (decide (p = q)))) w := by
  unfold execOp
  simp only [ho, hx, hy]
  by_cases h : p = q
  · subst h
    simp [go_sem]
  · have h2 : ¬ (p : Int) = q := by omega
    simp [go_sem, h, h2]
theorem execNeN {x y : Operand} {p q : Nat} (ho : o.op = .binOp .neq 3 x y 3) (hx : a.eval x = .int .i64 (p : Int)) (hy : a.eval y = .int .i64 (q : Int)) : (execOp a.eval o).run Tryz.prog w = .ok (.value (.bool (decide (p ≠ q)))) w := by
  unfold execOp
  simp only [ho, hx, hy]
  by_cases h : p = q
  · subst h
    simp [go_sem]
  · have h2 : ¬ (p : Int) = q := by omega
    simp [go_sem, h, h2]
theorem execNeE {x y : Operand} {p q : Nat} (ho : o.op = .binOp .neq 28 x y 28) (hx : a.eval x = .int .i64 (p : Int)) (hy : a.eval y = .int .i64 (q : Int)) : (execOp a.eval o).run Tryz.prog w = .ok (.value (.bool (decide (p ≠ q)))) w := by
  unfold execOp
  simp only [ho, hx, hy]
  by_cases h : p = q
  · subst h
    simp [go_sem]
  · have h2 : ¬ (p : Int) = q := by omega
    simp [go_sem, h, h2]
theorem execGtN {x y : Operand} {p q : Nat} (ho : o.op = .binOp .gtr 3 x y 3) (hx : a.eval x = .int .i64 (p : Int)) (hy : a.eval y = .int .i64 (q : Int)) : (execOp a.eval o).run Tryz.prog w = .ok (.value (.bool (decide (q < p)))) w := by
  unfold execOp
  simp only [ho, hx, hy]
  by_cases h : q < p
  · simp [go_sem, h]
  · simp [go_sem, h]
end
theorem OwnM.set {X : World} {B n g : Nat} {v : Value} {q : Nat → Nat} {cur c : Array Value} {t : TypeId} (h : OwnM X B v n q) (hg : X.heap[g]? = some (.cells cur t)) (ht : t ≠ 5) : OwnM (X.setRow g c) B v n q := by
  obtain ⟨g1, cap, cu, fz, e, hB, h1, hr⟩ := h
  refine ⟨g1, cap, cu, fz, e, hB, ?_, hr⟩
  rw [setRow_other _ _ _ _ (fun q => ?_)]
  · exact h1
  · subst q
    rw [h1] at hg
    injection hg with hg
    injection hg with _ hg _
    exact ht hg.symm
/-- What Take answers: nothing, or a row of its own. -/
def TkA (W : World) (B : Nat) (v : Value) (k : Nat) (q : Nat → Nat) : Prop := (v = .slice none 0 0 ∧ k = 0) ∨ OwnM W B v k q
theorem TkA.slice {W : World} {B n : Nat} {v : Value} {p : Nat → Nat} (h : TkA W B v n p) : SliceN W v n p := by
  rcases h with ⟨rfl, rfl⟩ | h
  · exact ⟨⟨_, _, rfl, Nat.le_refl _, by omega, fun h => by omega⟩, fun j hj => by omega⟩
  · exact h.slice
theorem TkA.on {W W' : World} {B n : Nat} {v : Value} {p : Nat → Nat} (h : TkA W B v n p) (hb : Below W.heap.size W W') : TkA W' B v n p := h.imp id (·.on hb)
theorem TkA.base {W : World} {B C n : Nat} {v : Value} {p : Nat → Nat} (h : TkA W C v n p) (hB : B ≤ C) : TkA W B v n p := h.imp id (·.base hB)
theorem TkA.set {X : World} {B n g : Nat} {v : Value} {q : Nat → Nat} {cur c : Array Value} {t : TypeId} (h : TkA X B v n q) (hg : X.heap[g]? = some (.cells cur t)) (ht : t ≠ 5) : TkA (X.setRow g c) B v n q := h.imp id (·.set hg ht)
end Go.Proofs.YteekoabgbjbabaaGreatDoor.Tap
