import Derived.Test.YtcffmmeafnapiaaDoorB7m
import Derived.Test.YtcffmmeafnapiaaDoorB7v
import Derived.Test.YtcffmmeafnapiaaDoorX7f
import Derived.Test.YtcffmmeafnapiaaDoorX7b
import Derived.Deep.RegionHeld
namespace Go.Proofs.YtcffmmeafnapiaaDoor.Rou
open Go.RowKit Gf8 Aes By8 Cel Oni
/- RouteKeeps: groundwork. -/

/-- What lies where. -/
structure RX where
  (J h hn n kc nc pc kb ko nb no : Nat)
  (ka na pa : Option Addr)
  xv : Nat → Value
  lk : Nat → Nat
  (key q : Nat → Nat → Nat)
  p : Nat → Nat
  ep : Int
def RX.kv (c : RX) : Value := .slice c.ka c.h c.kc
def RX.nv (c : RX) : Value := .slice c.na c.hn c.nc
def RX.pv (c : RX) : Value := .slice c.pa c.n c.pc
structure RA (c : RX) (a : Act) : Prop where
  sz : a.tmps.size = 375
  df : a.defers = []
  t1 : a.eval (.tmp 1) = .int .i64 c.ep
  t2 : a.eval (.tmp 2) = .pointer (some ⟨c.J, 0, none⟩)
theorem RA.keep {c : RX} {a a' : Act} {ds : List Nat} (h : RA c a) (hs : a'.tmps.size = 375) (hd : a'.defers = a.defers) (hf : ∀ e, e ∉ ds → a'.eval (.tmp e) = a.eval (.tmp e)) (hk : ([1, 2] : List Nat).all (fun k => !ds.contains k) = true) : RA c a' := by
  have hk2 : ∀ k, k ∈ ([1, 2] : List Nat) → k ∉ ds := fun k hk1 => by
    have := List.all_eq_true.1 hk k hk1
    simpa using this
  exact ⟨hs, hd.trans h.df, (hf 1 (hk2 1 (by simp))).trans h.t1, (hf 2 (hk2 2 (by simp))).trans h.t2⟩
structure RF (c : RX) (V V1 : World) : Prop where
  sz : c.h ≤ 16 ∧ c.n ≤ 400 ∧ c.hn * 16 ≤ 140737488351232
  bel0 : Below V.heap.size V V1
  glob : Glob V
  job : V1.heap[c.J]? = some (.cells (hC c.kv c.nv c.pv) 33)
  cells : Cells V c.kv c.h c.xv c.lk c.key
  nons : Nons V c.nv c.hn c.q
  pay : SliceZ V c.pv c.n c.p
  nn : ∀ l cc, c.nv = .slice none l cc → cc = 0
  ka : 0 < c.h → c.ka = some ⟨c.kb, c.ko, none⟩ ∧ c.kb < V.heap.size ∧ ∀ i, i < c.h → V.cell? ⟨c.kb, c.ko + i, none⟩ = some (c.xv i)
theorem RF.belW {c : RX} {V V1 W : World} (F : RF c V V1) (h : Below V1.heap.size V1 W) : Below V.heap.size V W := F.bel0.trans (h.mono F.bel0.size)
theorem RF.jobW {c : RX} {V V1 W : World} (F : RF c V V1) (h : Below V1.heap.size V1 W) : W.heap[c.J]? = some (.cells (hC c.kv c.nv c.pv) 33) := by
  rw [h.block _ (Array.getElem?_eq_some_iff.1 F.job).1]; exact F.job
/-- The values of a list of lists. -/
def lL (x : Nat → Value) : Nat → List Value
  | 0 => []
  | n + 1 => lL x n ++ [x n]
theorem lL_len (x : Nat → Value) : ∀ n, (lL x n).length = n
  | 0 => rfl
  | n + 1 => by simp [lL, lL_len x n]
theorem lL_get (x : Nat → Value) : ∀ (n k : Nat), k < n → (lL x n)[k]? = some (x k)
  | 0, k, hk => by omega
  | n + 1, k, hk => by
    simp only [lL]
    by_cases h : k < n
    · rw [List.getElem?_append_left (by rw [lL_len]; exact h)]
      exact lL_get x n k h
    · obtain rfl : k = n := by omega
      rw [List.getElem?_append_right (by rw [lL_len]; omega), lL_len]
      simp
theorem lL_congr {x y : Nat → Value} : ∀ n, (∀ i, i < n → x i = y i) → lL x n = lL y n
  | 0, _ => rfl
  | n + 1, h => by simp only [lL]; rw [lL_congr n (fun i hi => h i (by omega)), h n (by omega)]
theorem infoL8 : ∃ i, Tryd.prog.info? 22 = some i ∧ i.zero = some (.slice none 0 0) ∧ i.size = 1 ∧ i.bytes = 24 := by
  have h : (Tryd.prog.info? 22).map (fun i => (i.zero, i.size, i.bytes)) = some (some (.slice none 0 0), 1, 24) := by kernel_rfl
  cases hq : Tryd.prog.info? 22 with
  | none => rw [hq] at h; cases h
  | some i =>
    rw [hq] at h
    simp only [Option.map_some, Option.some.injEq, Prod.mk.injEq] at h
    exact ⟨i, rfl, h.1, h.2.1, h.2.2⟩
theorem infoA8 : ∃ i, Tryd.prog.info? 40 = some i ∧ i.zero = some (.agg (bA 16 fun _ => 0)) ∧ i.size = 16 ∧ i.bytes = 16 := by
  have h : (Tryd.prog.info? 40).map (fun i => (i.zero, i.size, i.bytes)) = some (some (.agg (bA 16 fun _ => 0)), 16, 16) := by kernel_rfl
  cases hq : Tryd.prog.info? 40 with
  | none => rw [hq] at h; cases h
  | some i =>
    rw [hq] at h
    simp only [Option.map_some, Option.some.injEq, Prod.mk.injEq] at h
    exact ⟨i, rfl, h.1, h.2.1, h.2.2⟩
section
variable {o : Oper} {a : Act} {w W : World}
theorem execFC {x : Operand} {b k f : Nat} (hk : (k = 0 ∧ f = 0) ∨ (k = 1 ∧ f = 1) ∨ (k = 2 ∧ f = 2)) (ho : o.op = .fieldAddr 33 x k) (hx : a.eval x = .pointer (some ⟨b, 0, none⟩)) : (execOp a.eval o).run Tryd.prog w = .ok (.value (.pointer (some ⟨b, f, none⟩))) w := by
  rcases hk with ⟨rfl, rfl⟩ | ⟨rfl, rfl⟩ | ⟨rfl, rfl⟩
  · exact execC0 ho hx
  · exact execC1 ho hx
  · exact execC2 ho hx
theorem execLenL {x : Operand} {ao : Option Addr} {c len : Nat} (ho : o.op = .call { callee := .builtin .len, args := #[x], argTypes := #[30] }) (hx : a.eval x = .slice ao len c) : (execOp a.eval o).run Tryd.prog w = .ok (.value (.int .i64 (len : Int))) w := by
  unfold execOp
  simp only [ho, resolve, invoke, builtin, Sem.run_bind, Sem.run_pure, Result.andThen_ok, List.map_toArray, List.map_cons, List.map_nil, hx]
  simp [go_sem]
theorem execLenA {x : Operand} {ao : Option Addr} {c len : Nat} (ho : o.op = .call { callee := .builtin .len, args := #[x], argTypes := #[31] }) (hx : a.eval x = .slice ao len c) : (execOp a.eval o).run Tryd.prog w = .ok (.value (.int .i64 (len : Int))) w := by
  unfold execOp
  simp only [ho, resolve, invoke, builtin, Sem.run_bind, Sem.run_pure, Result.andThen_ok, List.map_toArray, List.map_cons, List.map_nil, hx]
  simp [go_sem]
theorem execLt8 {x : Operand} {p q : Nat} (ho : o.op = .binOp .lss 3 x (.const (.int .i64 (q : Int))) 3) (hx : a.eval x = .int .i64 (p : Int)) : (execOp a.eval o).run Tryd.prog w = .ok (.value (.bool (decide (p < q)))) w := by
  unfold execOp
  simp only [ho, hx]
  simp [go_sem]
theorem execLtW {x y : Operand} {p q : Nat} (ho : o.op = .binOp .lss 3 x y 3) (hx : a.eval x = .int .i64 (p : Int)) (hy : a.eval y = .int .i64 (q : Int)) : (execOp a.eval o).run Tryd.prog w = .ok (.value (.bool (decide (p < q)))) w := by
  unfold execOp
  simp only [ho, hx, hy]
  simp [go_sem]
theorem execGt8 {x : Operand} {p q : Nat} (ho : o.op = .binOp .gtr 3 x (.const (.int .i64 (q : Int))) 3) (hx : a.eval x = .int .i64 (p : Int)) : (execOp a.eval o).run Tryd.prog w = .ok (.value (.bool (decide (q < p)))) w := by
  unfold execOp
  simp only [ho, hx]
  simp [go_sem]
theorem execAd8 {x y : Operand} {p q : Nat} (ho : o.op = .binOp .add 3 x y 3) (hx : a.eval x = .int .i64 (p : Int)) (hy : a.eval y = .int .i64 (q : Int)) (h : p + q < 9223372036854775808) : (execOp a.eval o).run Tryd.prog w = .ok (.value (.int .i64 ((p + q : Nat) : Int))) w := by
  have e : IntKind.i64.wrap ((p : Int) + (q : Int)) = ((p + q : Nat) : Int) := by rw [← Int.natCast_add]; exact wrap_i64_nat h
  unfold execOp
  simp only [ho, hx, hy]
  simp [go_sem, e]
theorem execNeqU8 {x y : Operand} {p : Int} (ho : o.op = .binOp .neq 5 x y 5) (hx : a.eval x = .int .u8 p) (hy : a.eval y = .int .u8 p) : (execOp a.eval o).run Tryd.prog w = .ok (.value (.bool false)) w := by
  unfold execOp
  simp only [ho, hx, hy]
  simp [go_sem]
theorem execEqlU8 {x y : Operand} {p : Int} (ho : o.op = .binOp .eql 5 x y 5) (hx : a.eval x = .int .u8 p) (hy : a.eval y = .int .u8 p) : (execOp a.eval o).run Tryd.prog w = .ok (.value (.bool true)) w := by
  unfold execOp
  simp only [ho, hx, hy]
  simp [go_sem]
theorem execNeqE8 {x y : Operand} {p : Int} (ho : o.op = .binOp .neq 26 x y 26) (hx : a.eval x = .int .i64 p) (hy : a.eval y = .int .i64 p) : (execOp a.eval o).run Tryd.prog w = .ok (.value (.bool false)) w := by
  unfold execOp
  simp only [ho, hx, hy]
  simp [go_sem]
theorem execNot8 {x : Operand} {b : Bool} (ho : o.op = .unOp .not 4 x) (hx : a.eval x = .bool b) : (execOp a.eval o).run Tryd.prog w = .ok (.value (.bool (!b))) w := by
  unfold execOp
  simp only [ho, hx]
  simp [go_sem]
theorem execBs0 (ho : o.op = .buildSlice 22 0 #[]) : (execOp a.eval o).run Tryd.prog w = .ok (.value (.slice (some ⟨w.heap.size, 0, none⟩) 0 0)) (w.alloc (.cells #[] 5)) := by
  unfold execOp
  simp only [ho]
  simp [go_sem]
theorem execBs0A (ho : o.op = .buildSlice 31 0 #[]) : (execOp a.eval o).run Tryd.prog w = .ok (.value (.slice (some ⟨w.heap.size, 0, none⟩) 0 0)) (w.alloc (.cells #[] 40)) := by
  unfold execOp
  simp only [ho]
  simp [go_sem]
theorem execBsU {z : Int} (ho : o.op = .buildSlice 22 1 #[(0, .const (.int .u8 z))]) : (execOp a.eval o).run Tryd.prog w = .ok (.value (.slice (some ⟨w.heap.size, 0, none⟩) 1 1)) (w.alloc (.cells #[.int .u8 z] 5)) := by
  unfold execOp
  simp only [ho, List.map_toArray, List.map_cons, List.map_nil, Act.eval]
  simp [go_sem]
theorem execBsU2 {y z : Int} (ho : o.op = .buildSlice 22 2 #[(0, .const (.int .u8 y)), (1, .const (.int .u8 z))]) : (execOp a.eval o).run Tryd.prog w = .ok (.value (.slice (some ⟨w.heap.size, 0, none⟩) 2 2)) (w.alloc (.cells #[.int .u8 y, .int .u8 z] 5)) := by
  unfold execOp
  simp only [ho, List.map_toArray, List.map_cons, List.map_nil, Act.eval]
  simp [go_sem]
theorem execBsL2 {x y : Operand} {r s : Value} (ho : o.op = .buildSlice 30 2 #[(0, x), (1, y)]) (hx : a.eval x = r) (hy : a.eval y = s) (hr : ∃ g n c, r = .slice g n c) (hs : ∃ g n c, s = .slice g n c) : (execOp a.eval o).run Tryd.prog w = .ok (.value (.slice (some ⟨w.heap.size, 0, none⟩) 2 2)) (w.alloc (.cells #[r, s] 22)) := by
  obtain ⟨_, _, _, rfl⟩ := hr
  obtain ⟨_, _, _, rfl⟩ := hs
  unfold execOp
  simp only [ho, List.map_toArray, List.map_cons, List.map_nil, hx, hy]
  simp [go_sem]
/-- append to a row of one's own: the operation. -/
theorem execAppO {s x : Operand} {T e : TypeId} {i : TypeInfo} {z : Value} {size bytes B n m c : Nat} {v : Value} {xs news : List Value} {ad : Addr}
    (ho : o.op = .call { callee := .builtin .append, args := #[s, x], argTypes := #[T, T] }) (ht : Tryd.prog.underlying T = some (.slice e)) (hi : Tryd.prog.info? e = some i) (hz : i.zero = some z) (hsize : i.size = size) (hby : i.bytes = bytes) (hzs : z.cells.size = size) (hsz : 0 < size)
    (hs : a.eval s = v) (hown : W.ownsRow B e size v n xs) (hx : a.eval x = .slice (some ad) m c) (hl : news.length = m * size) (hnews : ∀ j u, news[j]? = some u → W.cell? (ad.add j) = some u) (h1 : ∀ u ∈ news, u.oneCell' = true) (h63 : n + m ≤ maxLen) (hbytes : (n + m) * bytes ≤ 140737488355328) (hB : B ≤ W.heap.size) :
    ∃ v' W', (execOp a.eval o).run Tryd.prog W = .ok (.value v') W' ∧ W'.ownsRow B e size v' (n + m) (xs ++ news) ∧ W.grownBy W' v.ownBlock := by
  obtain ⟨v', w', hr, q1, q2, _⟩ := run_append_own (P := Tryd.prog) W B T o.type e i z size bytes ht hi hz hsize hby hzs hsz v n xs hown ad m c news hl hnews h1 h63 hbytes hB
  refine ⟨v', w', ?_, q1, q2⟩
  unfold execOp
  simp only [ho, resolve, invoke, builtin, Sem.run_bind, Sem.run_pure, Result.andThen_ok, List.map_toArray, List.map_cons, List.map_nil, hs, hx, hr]
/-- append of bytes, nil or not. -/
theorem execAppN {s x : Operand} {B n m : Nat} {v u : Value} {p : Nat → Nat}
    (ho : o.op = .call { callee := .builtin .append, args := #[s, x], argTypes := #[22, 22] })
    (hs : a.eval s = v) (hx : a.eval x = u) (hown : W.ownsRow B 5 1 v n (bytesL n p)) (hu : SliceN W u m (fun j => p (n + j))) (hnil : ∀ l c, u = .slice none l c → c = 0) (hbig : n + m ≤ 140737488355328) (hB : B ≤ W.heap.size) :
    ∃ v' W', (execOp a.eval o).run Tryd.prog W = .ok (.value v') W' ∧ W'.ownsRow B 5 1 v' (n + m) (bytesL (n + m) p) ∧ W.grownBy W' v.ownBlock := by
  obtain ⟨i, h1, h2, h3, h4⟩ := info5
  obtain ⟨⟨ao, cap, rfl, _, _, hc⟩, _⟩ := hu
  cases ao with
  | none =>
    have hm : m = 0 := by
      rcases Nat.eq_zero_or_pos m with e | e
      · exact e
      · obtain ⟨_, _, e', _⟩ := hc e
        cases e'
    subst hm
    have hcap := hnil _ _ rfl
    subst hcap
    have hr := run_append_owned_none (P := Tryd.prog) W B 22 o.type 5 i 1 Tryd.underlying22 h1 v n (bytesL n p) hown
    refine ⟨v, W, ?_, hown, ⟨rfl, rfl, rfl, Nat.le_refl _, fun _ _ _ => rfl⟩⟩
    unfold execOp
    simp only [ho, resolve, invoke, builtin, Sem.run_bind, Sem.run_pure, Result.andThen_ok, List.map_toArray, List.map_cons, List.map_nil, hs, hx, hr]
  | some ad =>
    obtain ⟨v', w', hr, q1, q2⟩ := execAppO (m := m) (c := cap) (ad := ad) (xs := bytesL n p) (size := 1) (bytes := 1) (z := .int .u8 0) (news := bytesL m fun j => p (n + j)) ho Tryd.underlying22 h1 h2 h3 h4 rfl (by decide) hs hown hx (by rw [bytesL_len, Nat.mul_one]) (fun j z hz => by
      have hj : j < m := by have := (List.getElem?_eq_some_iff.1 hz).1; rw [bytesL_len] at this; exact this
      obtain ⟨b, off, e, _, e3⟩ := hc (by omega)
      obtain rfl : ad = ⟨b, off, none⟩ := Option.some.inj e
      rw [Go.WideShapes.add_plain, e3 j hj]
      rw [bytesL_at m _ hj] at hz
      exact hz) (bytesL_one _ _) (by unfold maxLen; omega) (by omega) hB
    rw [bytesL_app] at q1
    exact ⟨v', w', hr, q1, q2⟩
/-- append of lists out of a row that the call laid. -/
theorem execAppLs {s x : Operand} {B n m g : Nat} {v : Value} {xs : List Value} {ls : Array Value}
    (ho : o.op = .call { callee := .builtin .append, args := #[s, x], argTypes := #[30, 30] }) (hs : a.eval s = v) (hx : a.eval x = .slice (some ⟨g, 0, none⟩) m m) (hown : W.ownsRow B 22 1 v n xs) (hg : W.heap[g]? = some (.cells ls 22)) (hl : ls.size = m) (h1 : ∀ u ∈ ls.toList, u.oneCell' = true) (hn : n + m ≤ 1000000) (hB : B ≤ W.heap.size) :
    ∃ v' W', (execOp a.eval o).run Tryd.prog W = .ok (.value v') W' ∧ W'.ownsRow B 22 1 v' (n + m) (xs ++ ls.toList) ∧ W.grownBy W' v.ownBlock := by
  obtain ⟨i, i1, i2, i3, i4⟩ := infoL8
  exact execAppO ho Tryd.underlying30 i1 i2 i3 i4 (by simp [Value.cells]) (by decide) hs hown hx (by rw [Array.length_toList, hl, Nat.mul_one]) (fun j u hu => by
    rw [Go.WideShapes.add_plain, cell_of_row _ _ _ _ _ _ hg, Nat.zero_add]
    simpa using hu) h1 (by unfold maxLen; omega) (by omega) hB
end
theorem ret_then {K : Act → World → Prop} {Q : Exit → Act → World → Prop} {a : Act} {w : World} (h : Q .ret a w) : Exit.then K Q .ret a w := h
theorem ret_in {id : Nat} {Q : Exit → Act → World → Prop} {a : Act} {w : World} (h : Q .ret a w) : Exit.inBlock id Q .ret a w := h
/-- A list cut to k. -/
def cutV (v : Value) (k : Nat) : Value := match v with
  | .slice a _ c => .slice a k c
  | v => v
/-- A room: the key and 40 bytes of 165. -/
def rmF (l : Nat) (f : Nat → Nat) : Nat → Nat := fun j => if j < l then f j else 165
/-- The rooms and the keys in them, i of them laid. -/
structure RB (c : RX) (V1 W : World) (i : Nat) (x : Nat → Value) (u5 u6 : Value) : Prop where
  rows : ∀ t, t < i → W.ownsRow V1.heap.size 5 1 (x t) (c.lk t + 40) (bytesL (c.lk t + 40) (rmF (c.lk t) (c.key t)))
  rooms : W.ownsRow V1.heap.size 22 1 u6 i (lL x i)
  keys : W.ownsRow V1.heap.size 22 1 u5 i (lL (fun t => cutV (x t) (c.lk t)) i)
  nil5 : i = 0 → u5 = .slice none 0 0
  bel : Below V1.heap.size V1 W
  small : ∀ t, t < i → c.lk t ≤ 400
theorem RB.on {c : RX} {V1 W W' : World} {i : Nat} {x : Nat → Value} {u5 u6 : Value} (h : RB c V1 W i x u5 u6) (hb : Below W.heap.size W W') : RB c V1 W' i x u5 u6 :=
  ⟨fun t ht => ownsRow_below (h.rows t ht) hb, ownW_below h.rooms hb, ownW_below h.keys hb, h.nil5, h.bel.trans (hb.mono h.bel.size), h.small⟩
/-- A row of one's own stays where another block is grown. -/
theorem ownW_grown {W W' : World} {B n s : Nat} {t : TypeId} {v : Value} {xs : List Value} {b : Option Nat} (h : W.ownsRow B t s v n xs) (hg : W.grownBy W' b) (hne : ∀ k, v.ownBlock = some k → b ≠ some k) : W'.ownsRow B t s v n xs := by
  refine ⟨h.1, ?_⟩
  rcases h.2 with h | ⟨g, cap, cur, e, hB, hgr, h1, h2, h3, h4⟩
  · exact Or.inl h
  · refine Or.inr ⟨g, cap, cur, e, hB, ?_, h1, h2, h3, h4⟩
    rw [hg.block g (Array.getElem?_eq_some_iff.1 hgr).1 (fun q => hne g (by rw [e]; rfl) q.symm)]
    exact hgr
end Go.Proofs.YtcffmmeafnapiaaDoor.Rou
