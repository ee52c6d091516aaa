import Derived.Test.YtmmdaiknggjmmaaC2
namespace Go.Proofs.Ytmmdaiknggjmmaa.Cel
open Go.RowKit Gf8 Aes By8
/- CellKeeps: the room, the lists. -/

/-- A row F of which N bytes are known; all that lay in W0 lies. -/
structure RoT (F cap N : Nat) (q : Nat → Nat) (W0 W : World) : Prop where
  bel : Below W0.heap.size W0 W
  cur : ∃ c : Array Value, W.heap[F]? = some (.cells c 5) ∧ c.size = cap ∧ ∀ j, j < N → c[j]? = some (.int .u8 (q j))
  lF : W0.heap.size ≤ F
  lc : N ≤ cap
  cb : cap < 9223372036854775808
  qb : ∀ j, q j < 256
theorem RoT.lt {F cap N : Nat} {q : Nat → Nat} {W0 W : World} (h : RoT F cap N q W0 W) : F < W.heap.size := by
  obtain ⟨c, g, _⟩ := h.cur
  exact (Array.getElem?_eq_some_iff.1 g).1
theorem RoT.on {F cap N : Nat} {q : Nat → Nat} {W0 W W' : World} (h : RoT F cap N q W0 W) (hb : Below W.heap.size W W') : RoT F cap N q W0 W' := by
  obtain ⟨c, g, h2⟩ := h.cur
  exact ⟨h.bel.trans (hb.mono h.bel.size), ⟨c, by rw [hb.block _ (Array.getElem?_eq_some_iff.1 g).1]; exact g, h2⟩, h.lF, h.lc, h.cb, h.qb⟩
theorem RoT.cell {F cap N : Nat} {q : Nat → Nat} {W0 W : World} (h : RoT F cap N q W0 W) {j : Nat} (hj : j < N) : W.cell? ⟨F, j, none⟩ = some (.int .u8 (q j)) := by
  obtain ⟨c, g, _, h2⟩ := h.cur
  rw [cell_of_row _ _ _ _ _ _ g]; exact h2 j hj
theorem RoT.sl {F cap N : Nat} {q : Nat → Nat} {W0 W : World} (h : RoT F cap N q W0 W) {len : Nat} (hl : len ≤ N) : SliceN W (.slice (some ⟨F, 0, none⟩) len cap) len q :=
  ⟨⟨_, _, rfl, by have := h.lc; omega, h.cb, fun _ => ⟨F, 0, rfl, h.lt, fun j hj => by rw [Nat.zero_add]; exact h.cell (by omega)⟩⟩, fun j _ => h.qb j⟩
theorem RoT.set {F cap N : Nat} {q : Nat → Nat} {W0 W : World} (h : RoT F cap N q W0 W) (k : Nat) {z : Nat} (hz : z < 256) : RoT F cap N (updN q k z) W0 (W.setCell ⟨F, k, none⟩ (.int .u8 z)) := by
  obtain ⟨c, g, h1, h2⟩ := h.cur
  refine ⟨h.bel.setCell h.lF _, ⟨_, heap4 _ g, by simpa using h1, fun j hj => ?_⟩, h.lF, h.lc, h.cb, fun j => ?_⟩
  · rw [Array.getElem?_setIfInBounds]
    have := h.lc
    unfold updN
    by_cases e : k = j
    · subst e; rw [if_pos rfl, if_pos (by omega), if_pos rfl]
    · rw [if_neg e, if_neg (fun q => e q.symm)]; exact h2 j hj
  · unfold updN
    split
    · exact hz
    · exact h.qb j
/-- Blocks behind F alone were changed, or made. -/
theorem RoT.grown {F cap N : Nat} {q : Nat → Nat} {W0 W W' : World} {row : Option Nat} (h : RoT F cap N q W0 W) (hg : W.grownBy W' row) (hr : ∀ k, row = some k → F < k) : RoT F cap N q W0 W' := by
  obtain ⟨c, g, h2⟩ := h.cur
  have lF := h.lF
  have lt := h.lt
  refine ⟨⟨hg.os.trans h.bel.os, hg.tape.trans h.bel.tape, hg.output.trans h.bel.output, Nat.le_trans h.bel.size hg.size, fun k hk => ?_⟩, ⟨c, ?_, h2⟩, h.lF, h.lc, h.cb, h.qb⟩
  · rw [hg.block k (Nat.lt_of_lt_of_le hk h.bel.size) (fun e => by have := hr k e.symm; omega)]; exact h.bel.block k hk
  · rw [hg.block F lt (fun e => by have := hr F e.symm; omega)]; exact g
theorem ro_of {W0 W : World} {u : Value} {N : Nat} {q : Nat → Nat} (hb : Below W0.heap.size W0 W) (h : W.ownsRow W0.heap.size 5 1 u N (bytesL N q)) (h0 : 0 < N) (hq : ∀ j, q j < 256) : ∃ F cap, u = .slice (some ⟨F, 0, none⟩) N cap ∧ RoT F cap N q W0 W := by
  rcases h.2 with ⟨_, e⟩ | ⟨g, cap, cur, rfl, hB, hg, hn, hm, hs, ht⟩
  · omega
  · refine ⟨g, cap, rfl, hb, ⟨cur, hg, by omega, fun j hj => ?_⟩, hB, hn, by unfold maxLen at hm; omega, hq⟩
    have h2 : (cur.toList.take (N * 1))[j]? = some (.int .u8 (q j)) := by rw [ht]; exact bytesL_at N q hj
    rw [Nat.mul_one, List.getElem?_take, if_pos hj, Array.getElem?_toList] at h2
    exact h2
/-- The room's bytes. -/
def rmQ (c : Nat → Nat) (len : Nat) : Nat → Nat := fun j => if j < len then c j else 165
/-- How many bytes each list has, and which. -/
def nF (c : Nat → Nat) (len : Nat) (n : Int) (t : Nat) : Nat := match t % 5 with | 0 => okN 320 len | 1 => cutN c len n | 2 => okN 48 len | 3 => okN 319 len | _ => openN c len
def fF (c : Nat → Nat) (len : Nat) (t : Nat) : Nat → Nat := match t % 5 with | 0 => cellF 0 headO len c | 1 => c | 2 => cellF 2 (headP len) len c | 3 => cellF 1 headO len c | _ => fun j => c (2 + j)
theorem nF_le (c : Nat → Nat) (len : Nat) (n : Int) (t : Nat) : nF c len n t ≤ 320 := by
  unfold nF
  split
  · unfold okN; split <;> omega
  · unfold cutN
    split
    · rename_i e
      unfold cutE at e
      by_cases h1 : len ≠ 320
      · rw [if_pos h1] at e; omega
      · rw [if_neg h1] at e
        by_cases h2 : n < 0 ∨ 320 < n
        · rw [if_pos h2] at e; omega
        · omega
    · omega
  · unfold okN; split <;> omega
  · unfold okN; split <;> omega
  · cases hy : openY c len with
    | true => rw [(open_yes hy).2.2.2.2.2]; have := (open_yes hy).2.2.1; omega
    | false => rw [open_no hy]; omega
theorem fF_lt {c : Nat → Nat} {len : Nat} (n : Int) (hc : ∀ j, j < len → c j < 256) (t : Nat) : ∀ j, j < nF c len n t → fF c len t j < 256 := by
  intro j hj
  unfold nF at hj
  unfold fF
  have : t % 5 < 5 := Nat.mod_lt _ (by omega)
  generalize t % 5 = r at hj this ⊢
  match r, this with
  | 0, _ => exact cellF_lt headO_lt hc j
  | 1, _ => exact hc j (cutN_lt c len n hj)
  | 2, _ => exact plain_lt hc j hj
  | 3, _ => exact cellF_lt headO_lt hc j
  | 4, _ => exact hc _ (openN_lt c len hj).2

/-- The room, m rows, and a list of the first ml of them. -/
structure KpT (B F cp N : Nat) (q : Nat → Nat) (w0 : World) (nn : Nat → Nat) (ff : Nat → Nat → Nat) (ml m : Nat) (lv : Value) (x : Nat → Value) (W : World) : Prop where
  ro : RoT F cp N q w0 W
  fam : Fam B m x nn ff W
  own : W.ownsRow B 22 1 lv ml (xsL x 0 ml)
  hB : B ≤ W.heap.size
  fB : F < B
  le : ml ≤ m
section
variable {B F cp N : Nat} {q : Nat → Nat} {w0 : World} {nn : Nat → Nat} {ff : Nat → Nat → Nat} {ml m : Nat} {lv : Value} {x : Nat → Value} {W W' : World}
theorem KpT.on (h : KpT B F cp N q w0 nn ff ml m lv x W) (hb : Below W.heap.size W W') : KpT B F cp N q w0 nn ff ml m lv x W' :=
  ⟨h.ro.on hb, h.fam.on hb, ownL_below h.own hb, Nat.le_trans h.hB hb.size, h.fB, h.le⟩
theorem KpT.add (h : KpT B F cp N q w0 nn ff ml m lv x W) (hb : Below W.heap.size W W') {r : Value} (hr : W'.ownsRow W.heap.size 5 1 r (nn m) (bytesL (nn m) (ff m))) : KpT B F cp N q w0 nn ff ml (m + 1) lv (updX x m r) W' := by
  refine ⟨h.ro.on hb, h.fam.add hb h.hB hr, ?_, Nat.le_trans h.hB hb.size, h.fB, by have := h.le; omega⟩
  have h2 := ownL_below h.own hb
  rw [xsL_congr (y := updX x m r) (fun t ht => (updX_lt x r (by have := h.le; omega)).symm)] at h2
  exact h2
theorem KpT.app {n : Nat} (h : KpT B F cp N q w0 nn ff ml m lv x W) {v' : Value} (hn : ml + n ≤ m) (ho : W'.ownsRow B 22 1 v' (ml + n) (xsL x 0 (ml + n))) (hg : W.grownBy W' lv.ownBlock) : KpT B F cp N q w0 nn ff (ml + n) m v' x W' :=
  ⟨h.ro.grown hg (fun k hk => Nat.lt_of_lt_of_le h.fB (h.own.lt k hk).1), h.fam.grown h.own hg, ho, Nat.le_trans h.hB hg.size, h.fB, hn⟩
end
theorem xsL5 (x : Nat → Value) (o : Nat) : xsL x o 5 = [x o, x (o + 1), x (o + 2), x (o + 3), x (o + 4)] := rfl
theorem nF5 (c : Nat → Nat) (len : Nat) (n : Int) (t : Nat) : nF c len n (5 * t) = okN 320 len ∧ nF c len n (5 * t + 1) = cutN c len n ∧ nF c len n (5 * t + 2) = okN 48 len ∧ nF c len n (5 * t + 3) = okN 319 len ∧ nF c len n (5 * t + 4) = openN c len := by
  unfold nF
  rw [show 5 * t % 5 = 0 by omega, show (5 * t + 1) % 5 = 1 by omega, show (5 * t + 2) % 5 = 2 by omega, show (5 * t + 3) % 5 = 3 by omega, show (5 * t + 4) % 5 = 4 by omega]
  exact ⟨rfl, rfl, rfl, rfl, rfl⟩
theorem fF5 (c : Nat → Nat) (len : Nat) (t : Nat) : fF c len (5 * t) = cellF 0 headO len c ∧ fF c len (5 * t + 1) = c ∧ fF c len (5 * t + 2) = cellF 2 (headP len) len c ∧ fF c len (5 * t + 3) = cellF 1 headO len c ∧ fF c len (5 * t + 4) = fun j => c (2 + j) := by
  unfold fF
  rw [show 5 * t % 5 = 0 by omega, show (5 * t + 1) % 5 = 1 by omega, show (5 * t + 2) % 5 = 2 by omega, show (5 * t + 3) % 5 = 3 by omega, show (5 * t + 4) % 5 = 4 by omega]
  exact ⟨rfl, rfl, rfl, rfl, rfl⟩
theorem atAppL {P : Program} {ops : Array Oper} {rest : List Oper} {o : Oper} {a : Act} {w : World} {Q : Exit → Act → World → Prop} (s x : Operand) (_ : o.op = .call { callee := .builtin .append, args := #[s, x], argTypes := #[37, 37] }) (h : wpList P ops Q (o :: rest) a w) : wpList P ops Q (o :: rest) a w := h
/-- The five rows of a round. -/
theorem KpT.five {B F cp N : Nat} {q : Nat → Nat} {w0 : World} {c : Nat → Nat} {len : Nat} {n : Int} {t : Nat} {lv : Value} {x : Nat → Value} {W W1 W2 W3 W4 W5 : World} {a b d e f : Value}
    (h : KpT B F cp N q w0 (nF c len n) (fF c len) (5 * t) (5 * t) lv x W)
    (h1 : Below W.heap.size W W1) (o1 : W1.ownsRow W.heap.size 5 1 a (okN 320 len) (bytesL (okN 320 len) (cellF 0 headO len c)))
    (h2 : Below W1.heap.size W1 W2) (o2 : W2.ownsRow W1.heap.size 5 1 b (cutN c len n) (bytesL (cutN c len n) c))
    (h3 : Below W2.heap.size W2 W3) (o3 : W3.ownsRow W2.heap.size 5 1 d (okN 48 len) (bytesL (okN 48 len) (cellF 2 (headP len) len c)))
    (h4 : Below W3.heap.size W3 W4) (o4 : W4.ownsRow W3.heap.size 5 1 e (okN 319 len) (bytesL (okN 319 len) (cellF 1 headO len c)))
    (h5 : Below W4.heap.size W4 W5) (o5 : W5.ownsRow W4.heap.size 5 1 f (openN c len) (bytesL (openN c len) fun j => c (2 + j))) :
    ∃ x', KpT B F cp N q w0 (nF c len n) (fF c len) (5 * t) (5 * t + 5) lv x' W5 ∧ [a, b, d, e, f] = xsL x' (0 + 5 * t) 5 := by
  obtain ⟨n0, n1, n2, n3, n4⟩ := nF5 c len n t
  obtain ⟨f0, f1, f2, f3, f4⟩ := fF5 c len t
  have k1 := h.add h1 (r := a) (by rw [n0, f0]; exact o1)
  have k2 := k1.add h2 (r := b) (by rw [n1, f1]; exact o2)
  have k3 := k2.add h3 (r := d) (by rw [n2, f2]; exact o3)
  have k4 := k3.add h4 (r := e) (by rw [n3, f3]; exact o4)
  have k5 := k4.add h5 (r := f) (by rw [n4, f4]; exact o5)
  refine ⟨_, k5, ?_⟩
  rw [Nat.zero_add, xsL5]
  simp only [updX]
  rw [if_neg (by omega), if_neg (by omega), if_neg (by omega), if_neg (by omega), if_pos trivial, if_neg (by omega), if_neg (by omega), if_neg (by omega), if_pos trivial, if_neg (by omega), if_neg (by omega), if_pos trivial, if_neg (by omega), if_pos trivial, if_pos trivial]
theorem one5 (a b d e f : Option Addr) (l1 l2 l3 l4 l5 c1 c2 c3 c4 c5 : Nat) : ∀ u ∈ ([.slice a l1 c1, .slice b l2 c2, .slice d l3 c3, .slice e l4 c4, .slice f l5 c5] : List Value), u.oneCell' = true := by
  intro u hu
  simp only [List.mem_cons, List.not_mem_nil, or_false] at hu
  rcases hu with rfl | rfl | rfl | rfl | rfl <;> rfl
theorem own1s {W : World} {B n : Nat} {v : Value} {xs : List Value} (h : W.ownsRow B 5 1 v n xs) : v.oneCell' = true := own_oneCell h
/-- The room, the ten lists, and k copies of them. -/
structure KwT (B F cp N : Nat) (q : Nat → Nat) (w0 : World) (nn : Nat → Nat) (ff : Nat → Nat → Nat) (k m Lb lcap : Nat) (wv : Value) (x : Nat → Value) (W : World) : Prop where
  ro : RoT F cp N q w0 W
  fam : Fam B m x nn ff W
  lo : W.ownsRow B 22 1 (.slice (some ⟨Lb, 0, none⟩) 10 lcap) 10 (xsL x 0 10)
  wo : W.ownsRow B 22 1 wv k (xsL x 10 k)
  ne : wv.ownBlock ≠ some Lb
  hB : B ≤ W.heap.size
  fB : F < B
  le : 10 + k ≤ m
section
variable {B F cp N : Nat} {q : Nat → Nat} {w0 : World} {nn : Nat → Nat} {ff : Nat → Nat → Nat} {k m Lb lcap : Nat} {wv : Value} {x : Nat → Value} {W W' : World}
theorem KwT.on (h : KwT B F cp N q w0 nn ff k m Lb lcap wv x W) (hb : Below W.heap.size W W') : KwT B F cp N q w0 nn ff k m Lb lcap wv x W' :=
  ⟨h.ro.on hb, h.fam.on hb, ownL_below h.lo hb, ownL_below h.wo hb, h.ne, Nat.le_trans h.hB hb.size, h.fB, h.le⟩
theorem KwT.add (h : KwT B F cp N q w0 nn ff k m Lb lcap wv x W) (hb : Below W.heap.size W W') {r : Value} (hr : W'.ownsRow W.heap.size 5 1 r (nn m) (bytesL (nn m) (ff m))) : KwT B F cp N q w0 nn ff k (m + 1) Lb lcap wv (updX x m r) W' := by
  have le := h.le
  refine ⟨h.ro.on hb, h.fam.add hb h.hB hr, ?_, ?_, h.ne, Nat.le_trans h.hB hb.size, h.fB, by omega⟩
  · have h2 := ownL_below h.lo hb
    rw [xsL_congr (y := updX x m r) (fun t ht => (updX_lt x r (by omega)).symm)] at h2
    exact h2
  · have h2 := ownL_below h.wo hb
    rw [xsL_congr (y := updX x m r) (fun t ht => (updX_lt x r (by omega)).symm)] at h2
    exact h2
theorem KwT.app (h : KwT B F cp N q w0 nn ff k m Lb lcap wv x W) {v' : Value} (hn : 10 + (k + 1) ≤ m) (ho : W'.ownsRow B 22 1 v' (k + 1) (xsL x 10 (k + 1))) (hp : (v'.ownBlock = wv.ownBlock ∧ W.grownBy W' wv.ownBlock) ∨ (v'.ownBlock = some W.heap.size ∧ W.grownBy W' none)) : KwT B F cp N q w0 nn ff (k + 1) m Lb lcap v' x W' := by
  have hg := grown_row hp
  refine ⟨h.ro.grown hg (fun t ht => Nat.lt_of_lt_of_le h.fB (h.wo.lt t ht).1), h.fam.grown h.wo hg, h.lo.kept hg (.inr (fun e => h.ne e.symm)), ho, ?_, Nat.le_trans h.hB hg.size, h.fB, hn⟩
  rcases hp with ⟨e, _⟩ | ⟨e, _⟩
  · rw [e]; exact h.ne
  · rw [e]
    intro e2
    have := (h.lo.lt Lb rfl).2
    have := Option.some.inj e2
    omega
end
theorem execIdxL {o : Oper} {a : Act} {w : World} {y i : Operand} {b n cap k : Nat} (ho : o.op = .indexAddr 37 y i) (hx : a.eval y = .slice (some ⟨b, 0, none⟩) n cap) (hi : a.eval i = .int .i64 (k : Int)) (hk : k < n) : (execOp a.eval o).run Try.prog w = .ok (.value (.pointer (some ⟨b, k, none⟩))) w := by
  have h1 : (k : Int) < n := by omega
  unfold execOp
  simp only [ho, hx, hi]
  simp [go_sem, h1]
theorem execLdL {o : Oper} {a : Act} {w : World} {y : Operand} {b f : Nat} {v : Value} (ho : o.op = .load 22 y) (hx : a.eval y = .pointer (some ⟨b, f, none⟩)) (hc : w.cell? ⟨b, f, none⟩ = some v) : (execOp a.eval o).run Try.prog w = .ok (.value v) w := by
  unfold execOp
  simp only [ho, hx]
  simp [go_sem, hc]
/-- What each operation of the copies' comparing yields. -/
def cmV (Wb wcap k : Nat) (a b : Value) (s : ByteArray) (j : Nat) : Value :=
  match j with
  | 0 => .slice (some ⟨Wb, 0, none⟩) 10 wcap | 1 => .int .i64 k | 2 => .pointer (some ⟨Wb, k, none⟩) | 3 => a | 4 => .string s | 5 => .slice (some ⟨Wb, 0, none⟩) 10 wcap | 6 => .int .i64 k | 7 => .int .i64 (k + 5 : Nat) | 8 => .pointer (some ⟨Wb, k + 5, none⟩) | 9 => b | 10 => .string s | _ => .bool false
/-- The rows as they are marked: those below i throughout, row i up to j. -/
def mkF (ff : Nat → Nat → Nat) (i j : Nat) (t : Nat) : Nat → Nat := fun l => if t < i then t + 1 else if t = i ∧ l < j then t + 1 else ff t l
theorem mkF_zero (ff : Nat → Nat → Nat) : mkF ff 0 0 = ff := by
  funext t l
  simp [mkF]
theorem Fam.cg {B m : Nat} {x : Nat → Value} {nn : Nat → Nat} {ff gg : Nat → Nat → Nat} {W : World} (h : Fam B m x nn ff W) (e : ∀ t, t < m → ∀ l, l < nn t → ff t l = gg t l) : Fam B m x nn gg W :=
  ⟨fun t ht => by have h2 := h.rows t ht; rw [bytesL_congr (e t ht)] at h2; exact h2, h.dis⟩
theorem ownL_stays {W : World} {B n b k : Nat} {v u : Value} {xs : List Value} {c : Array Value} (h : W.ownsRow B 22 1 v n xs) (hb : W.heap[b]? = some (.cells c 5)) : (W.setCell ⟨b, k, none⟩ u).ownsRow B 22 1 v n xs := by
  refine ⟨h.1, ?_⟩
  rcases h.2 with h | ⟨g, cap, cur, e, hB, hg, h2⟩
  · exact Or.inl h
  · refine Or.inr ⟨g, cap, cur, e, hB, ?_, h2⟩
    rw [heap4o _ hb (fun e => by subst e; rw [hg] at hb; simp at hb)]
    exact hg
theorem KwT.mark {B F cp N : Nat} {q : Nat → Nat} {w0 : World} {nn : Nat → Nat} {ff : Nat → Nat → Nat} {k m Lb lcap : Nat} {wv : Value} {x : Nat → Value} {W : World} {i j g cap : Nat} (h : KwT B F cp N q w0 nn (mkF ff i j) k m Lb lcap wv x W) (hi : i < m) (hx : x i = .slice (some ⟨g, 0, none⟩) (nn i) cap) :
    KwT B F cp N q w0 nn (mkF ff i (j + 1)) k m Lb lcap wv x (W.setCell ⟨g, j, none⟩ (.int .u8 ((i + 1 : Nat) : Int))) := by
  have own := h.fam.rows i hi
  obtain ⟨cur, hg⟩ := own_type own (k := g) (by rw [hx]; rfl)
  have gB : B ≤ g := (own.lt g (by rw [hx]; rfl)).1
  refine ⟨h.ro.grown (grown_set hg) (fun t e => by have := Option.some.inj e; have := h.fB; omega), ⟨fun t ht => ?_, h.fam.dis⟩, ownL_stays h.lo hg, ownL_stays h.wo hg, h.ne, by have := h.hB; simpa using this, h.fB, h.le⟩
  by_cases e : t = i
  · subst e
    rw [hx] at own ⊢
    have o2 := own_set (m := j) (t + 1) own
    rw [bytesL_congr (g := mkF ff t (j + 1) t) (fun l _ => by
      unfold mkF
      by_cases e : l = j
      · simp [e]
      · have h3 : l < j ↔ l < j + 1 := by omega
        simp [e, h3])] at o2
    exact o2
  · have o2 := own_stays (k := j) (u := .int .u8 ((i + 1 : Nat) : Int)) (h.fam.rows t ht) hg (fun q => h.fam.dis i t hi ht (fun z => e z.symm) g (by rw [hx]; rfl) q)
    rw [bytesL_congr (g := mkF ff i (j + 1) t) (fun l _ => by
      unfold mkF
      by_cases h1 : t < i
      · rw [if_pos h1, if_pos h1]
      · rw [if_neg h1, if_neg h1, if_neg (fun q => e q.1), if_neg (fun q => e q.1)])] at o2
    exact o2
theorem KwT.cg {B F cp N : Nat} {q : Nat → Nat} {w0 : World} {nn : Nat → Nat} {ff gg : Nat → Nat → Nat} {k m Lb lcap : Nat} {wv : Value} {x : Nat → Value} {W : World} (h : KwT B F cp N q w0 nn ff k m Lb lcap wv x W) (e : ∀ t, t < m → ∀ l, l < nn t → ff t l = gg t l) : KwT B F cp N q w0 nn gg k m Lb lcap wv x W :=
  ⟨h.ro, h.fam.cg e, h.lo, h.wo, h.ne, h.hB, h.fB, h.le⟩
theorem KwT.grow {B F cp N : Nat} {q : Nat → Nat} {w0 : World} {nn : Nat → Nat} {ff : Nat → Nat → Nat} {kk m Lb lcap : Nat} {wv : Value} {x : Nat → Value} {W W' : World} (h : KwT B F cp N q w0 nn ff kk m Lb lcap wv x W) {i k : Nat} (hi : i < m) {u v' : Value} (hu : W.ownsRow B 5 1 u (nn i + k) (bytesL (nn i + k) (gRF (ff i) (nn i)))) (pl : u.ownBlock = (x i).ownBlock ∨ ∀ t, t < m → Dis u (x t))
    (hv : W'.ownsRow B 5 1 v' (nn i + k + 1) (bytesL (nn i + k + 1) (gRF (ff i) (nn i)))) (hp : (v'.ownBlock = u.ownBlock ∧ W.grownBy W' u.ownBlock ∧ capV v' = capV u) ∨ (v'.ownBlock = some W.heap.size ∧ W.grownBy W' Option.none)) :
    KwT B F cp N q w0 nn ff kk m Lb lcap wv x W' ∧ (v'.ownBlock = (x i).ownBlock ∨ ∀ t, t < m → Dis v' (x t)) := by
  have hg : W.grownBy W' u.ownBlock := grown_row (v' := v') (by rcases hp with ⟨a, b, _⟩ | h; exact .inl ⟨a, b⟩; exact .inr h)
  obtain ⟨f2, p2⟩ := h.fam.grow hi hu pl hv hp
  have keep : ∀ {a : Value} {n : Nat} {ys : List Value}, W.ownsRow B 22 1 a n ys → W'.ownsRow B 22 1 a n ys := fun {a n ys} ha => ha.kept hg (by
    cases hq : a.ownBlock with
    | none => exact .inl rfl
    | some b =>
      refine .inr fun q => ?_
      obtain ⟨c1, g1⟩ := own_typeL ha hq
      obtain ⟨c2, g2⟩ := own_type hu q.symm
      rw [g1] at g2
      simp at g2)
  exact ⟨⟨h.ro.grown hg (fun t ht => Nat.lt_of_lt_of_le h.fB (hu.lt t ht).1), f2, keep h.lo, keep h.wo, h.ne, Nat.le_trans h.hB hg.size, h.fB, h.le⟩, p2⟩
section
variable {o : Oper} {a : Act} {w : World}
theorem execLssT {y z : Operand} {p q : Nat} (ho : o.op = .binOp .lss 3 y z 3) (hx : a.eval y = .int .i64 p) (hy : a.eval z = .int .i64 q) (h : p < q) : (execOp a.eval o).run Try.prog w = .ok (.value (.bool true)) w := by
  have e := execLssI (w := w) ho hx hy
  rwa [decide_eq_true h] at e
theorem execLssF {y z : Operand} {p q : Nat} (ho : o.op = .binOp .lss 3 y z 3) (hx : a.eval y = .int .i64 p) (hy : a.eval z = .int .i64 q) (h : ¬ p < q) : (execOp a.eval o).run Try.prog w = .ok (.value (.bool false)) w := by
  have e := execLssI (w := w) ho hx hy
  rwa [decide_eq_false h] at e
theorem execGeqB {y z : Operand} {p q : Nat} (ho : o.op = .binOp .geq 3 y z 3) (hx : a.eval y = .int .i64 p) (hy : a.eval z = .int .i64 q) : (execOp a.eval o).run Try.prog w = .ok (.value (.bool (decide (q ≤ p)))) w := by
  unfold execOp
  simp only [ho, hx, hy]
  simp [go_sem]
theorem execGeqT {y z : Operand} {p q : Nat} (ho : o.op = .binOp .geq 3 y z 3) (hx : a.eval y = .int .i64 p) (hy : a.eval z = .int .i64 q) (h : q ≤ p) : (execOp a.eval o).run Try.prog w = .ok (.value (.bool true)) w := by
  have e := execGeqB (w := w) ho hx hy
  rwa [decide_eq_true h] at e
theorem execGeqF {y z : Operand} {p q : Nat} (ho : o.op = .binOp .geq 3 y z 3) (hx : a.eval y = .int .i64 p) (hy : a.eval z = .int .i64 q) (h : ¬ q ≤ p) : (execOp a.eval o).run Try.prog w = .ok (.value (.bool false)) w := by
  have e := execGeqB (w := w) ho hx hy
  rwa [decide_eq_false h] at e
theorem execNe5 {y z : Operand} {p : Int} (ho : o.op = .binOp .neq 5 y z 5) (hx : a.eval y = .int .u8 p) (hy : a.eval z = .int .u8 p) : (execOp a.eval o).run Try.prog w = .ok (.value (.bool false)) w := by
  unfold execOp
  simp only [ho, hx, hy]
  simp [go_sem]
end
/-- What each operation of the room's look yields, within the list and behind it. -/
def rkV (inside : Bool) (i len : Nat) (v room : Value) (F bv ov : Nat) (y : Nat) (j : Nat) : Value :=
  match inside, j with
  | _, 0 => .int .i64 i | _, 1 => v | _, 2 => .int .i64 len | b, 3 => .bool b | b, 4 => .bool b
  | true, 5 => room | true, 6 => .int .i64 i | true, 7 => .pointer (some ⟨F, i, none⟩) | true, 8 => .int .u8 y | true, 9 => v | true, 10 => .int .i64 i | true, 11 => .pointer (some ⟨bv, ov + i, none⟩) | true, 12 => .int .u8 y | true, 13 => .bool false
  | _, 14 => .bool false | _, 15 => .bool false | _, 16 => .int .i64 i | _, 17 => v | _, 18 => .int .i64 len | b, 19 => .bool (!b) | b, 20 => .bool (!b)
  | false, 21 => room | false, 22 => .int .i64 i | false, 23 => .pointer (some ⟨F, i, none⟩) | false, 24 => .int .u8 165 | false, 25 => .bool false
  | _, 26 => .bool false | _, 27 => .bool false | _, _ => undef
theorem ownL_off {W : World} {B n F k : Nat} {v z : Value} {xs : List Value} (h : W.ownsRow B 22 1 v n xs) (hF : F < B) : (W.setCell ⟨F, k, none⟩ z).ownsRow B 22 1 v n xs := by
  refine ⟨h.1, ?_⟩
  rcases h.2 with h | ⟨g, cap, cur, e, hB, hg, h2⟩
  · exact Or.inl h
  · exact Or.inr ⟨g, cap, cur, e, hB, by rw [Below.heap_setCell _ _ _ _ (by show g ≠ F; omega)]; exact hg, h2⟩
theorem KwT.room {B F cp N : Nat} {q : Nat → Nat} {w0 : World} {nn : Nat → Nat} {ff : Nat → Nat → Nat} {kk m Lb lcap : Nat} {wv : Value} {x : Nat → Value} {W : World} (h : KwT B F cp N q w0 nn ff kk m Lb lcap wv x W) (k : Nat) {z : Nat} (hz : z < 256) :
    KwT B F cp N (updN q k z) w0 nn ff kk m Lb lcap wv x (W.setCell ⟨F, k, none⟩ (.int .u8 z)) :=
  ⟨h.ro.set k hz, ⟨fun t ht => own_off (h.fam.rows t ht) h.fB _, h.fam.dis⟩, ownL_off h.lo h.fB, ownL_off h.wo h.fB, h.ne, by have := h.hB; simpa using this, h.fB, h.le⟩
/-- What each operation of CellKeeps' last region yields. -/
def lsV (a f x0 x4 : Value) (Wb wcap : Nat) (s t : ByteArray) (j : Nat) : Value :=
  match j with
  | 0 => a | 1 => .string s | 2 => .slice (some ⟨Wb, 0, none⟩) 10 wcap | 3 => .pointer (some ⟨Wb, 0, none⟩) | 4 => x0 | 5 => .string s | 8 => f | 9 => .string t | 10 => .slice (some ⟨Wb, 0, none⟩) 10 wcap | 11 => .pointer (some ⟨Wb, 4, none⟩) | 12 => x4 | 13 => .string t | _ => .bool true

set_option maxRecDepth 20000 in
set_option maxHeartbeats 1000000 in
theorem keeps_any (I : Impl) (c : Nat → Nat) (len : Nat) (n : Int) (v : Value) (V : World) (hv : SliceZ V v len c) (hl : len ≤ 140737488351232) (h0 : -9223372036854775808 ≤ n) (h1 : n < 9223372036854775808) :
    Calls Try.prog 7 #[v, .int .i64 n] V fun e w' => e = .returned (.bool true) ∧ Below V.heap.size V w' := by
  have HI : Hid Impl := I
  have HL : Hid (len ≤ 140737488351232) := hl
  have HN : Hid (-9223372036854775808 ≤ n ∧ n < 9223372036854775808) := ⟨h0, h1⟩
  have lb : (len : Int) ≤ 140737488351232 := by omega
  have CB : Hid (∀ j, j < len → c j < 256) := hv.sl.bytes
  have sv : Hid (SliceZ V v len c) := hv
  have SV := hv.shape
  obtain ⟨av, cv, rfl⟩ := SV
  clear I hl hv h0 h1
  have QB : Hid (∀ j, rmQ c len j < 256) := fun j => by
    unfold rmQ
    split
    · exact CB.out j (by assumption)
    · omega
  obtain ⟨q, hq⟩ : ∃ q, rmQ c len = q := ⟨_, rfl⟩
  have HQ : Hid ((∀ j, j < len → c j = q (0 + j)) ∧ (∀ j, ¬ j < len → q j = 165) ∧ ∀ j, j < len → q j = c j) := by
    rw [← hq]
    exact ⟨fun j hj => by unfold rmQ; rw [Nat.zero_add, if_pos hj], fun j hj => by unfold rmQ; rw [if_neg hj], fun j hj => by unfold rmQ; rw [if_pos hj]⟩
  rw [hq] at QB
  clear hq
  go_enter Try.func7, Try.ntmps7
  go_wp2_with (first
    | (go_at_call 8; refine (awake_any HI.out _).mono ?_; rintro e w0 ⟨rfl, hb0⟩; have sv : Hid (SliceZ w0 (.slice av len cv) len c) := sv.out.on hb0; have B0 : Hid (Below V.heap.size V w0) := hb0; clear hb0)
    | (refine atAppB (.tmp 40) (.tmp 41) rfl ?_; go_must (refine wpList_appS (B := w0.heap.size) (n := 0) (m := len) (p := q) rfl (.tmp 40) (.tmp 41) rfl rfl rfl (own_none w0 q) (sliceN_cg (sv.out.sl.on (belNew w0 _)) HQ.out.1) sv.out.nil (by have := HL.out; omega) (by simp) ?_; intro u1 W1 own1 gr1; have b1 : Below w0.heap.size w0 W1 := below_grown (belNew w0 _) (by simp) (own_none w0 q) gr1; rw [Nat.zero_add] at own1; clear gr1)))
  have O1 : Hid (W1.ownsRow w0.heap.size 5 1 u1 len (bytesL len q)) := own1
  have B1 : Hid (Below w0.heap.size w0 W1) := b1
  clear own1 b1
  go_loopw [5, 6] (fun u i W => ∃ k : Nat, k ≤ 400 ∧ i = .int .i64 k ∧ W.ownsRow w0.heap.size 5 1 u (len + k) (bytesL (len + k) q) ∧ Below w0.heap.size w0 W) (fun _ i _ => 400 - (intOf i).toNat)
  case atStart => exact ⟨0, by omega, rfl, O1.out, B1.out⟩
  case round =>
    obtain ⟨k, hk, rfl, own, bel⟩ := hrel
    clear O1 B1
    obtain ⟨ao, cp, rfl⟩ := own_shapeJ own
    by_cases hlt : k < 400
    · have i1 : (k : Int) < 400 := by omega
      have HK : Hid (k < 400) := hlt
      have OW : Hid (wr.ownsRow w0.heap.size 5 1 (.slice ao (len + k) cp) (len + k) (bytesL (len + k) q)) := own
      have BL : Hid (Below w0.heap.size w0 wr) := bel
      clear own bel hk hlt
      go_wp2_with (refine atAppB (.tmp 47) (.tmp 48) rfl ?_; go_must (refine wpList_appP (B := w0.heap.size) (n := len + k) (g := wr.heap.size) (p := q) rfl (.tmp 47) (.tmp 48) rfl rfl rfl (ownsRow_below OW.out (belNew wr _)) (by rw [HQ.out.2.1 (len + k) (by omega)]; exact heapNew wr _) (by have := HK.out; have := HL.out; omega) (by have := BL.out.size; simp; omega) ?_; intro u2 W2 own2 gr2; have b2 : Below w0.heap.size w0 W2 := below_grown (BL.out.trans ((belNew wr _).mono BL.out.size)) (by have := BL.out.size; simp; omega) (ownsRow_below OW.out (belNew wr _)) gr2; clear gr2))
      go_roundw
      case rel => exact ⟨k + 1, by have := HK.out; omega, by go_num, own2, b2⟩
      case measure => have := HK.out; simp [intOf]; omega
    · have ek : k = 400 := by omega
      subst ek
      have i1 : ¬ ((400 : Nat) : Int) < 400 := by omega
      obtain ⟨F, cap, eF, ro⟩ := ro_of bel own (by omega) QB.out
      injection eF with e1 _ e3
      subst e1 e3
      have lcc : len ≤ cp := by have := ro.lc; omega
      have lc0 : ¬ cp = 0 := by have := ro.lc; omega
      have RO : Hid (RoT F cp (len + 400) q w0 wr) := ro
      clear ro own bel hlt hk
      rw [show ((400 : Nat) : Int) = 400 from rfl]
      go_wp2_with fail
      obtain ⟨Ws, hWs⟩ : ∃ Ws, Ws = wr := ⟨_, rfl⟩
      rw [← hWs] at RO ⊢
      clear hWs
      have IN : Hid (∀ W, RoT F cp (len + 400) q w0 W → SliceZ W (.slice (some ⟨F, 0, none⟩) len cp) len c) := fun W h => ⟨sliceN_cg (h.sl (by omega)) HQ.out.2.2, fun l c e => by cases e⟩
      have K0 : Hid (KpT Ws.heap.size F cp (len + 400) q w0 (nF c len n) (fF c len) (5 * 0) (5 * 0) (.slice none 0 0) (fun _ => undef) Ws) := ⟨RO.out, Fam.none _ _ _ _ _, World.ownsRow_nil _ _ _ _, Nat.le_refl _, RO.out.lt, by omega⟩
      clear RO
      go_loopw [8, 10] (fun lv i W => ∃ t : Nat, t ≤ 2 ∧ i = .int .i64 t ∧ ∃ x, KpT Ws.heap.size F cp (len + 400) q w0 (nF c len n) (fF c len) (5 * t) (5 * t) lv x W) (fun _ i _ => 2 - (intOf i).toNat)
      case atStart => exact ⟨0, by omega, rfl, _, K0.out⟩
      case round =>
        obtain ⟨t, ht, rfl, x, kt⟩ := hrel
        clear K0
        by_cases ht2 : t < 2
        · have i1 : (t : Int) < 2 := by omega
          have HT : Hid (t < 2) := ht2
          have KT : Hid (_) := kt
          have ki := IN.out _ kt.ro
          obtain ⟨al, cl, rfl⟩ : ∃ al cl, u8 = .slice al (5 * t) cl := by
            rcases kt.own.2 with ⟨e, e2⟩ | ⟨g, cap, cur, e, _⟩
            · exact ⟨_, _, by rw [e, e2]⟩
            · exact ⟨_, _, e⟩
          clear kt ht2 ht
          go_wp2_with (first
            | (go_at_call 12; refine (HI.out.pad c len _ _ ki HL.out).mono ?_; rintro e w1 ⟨xa', rfl, oa, hb1⟩; obtain ⟨aaa, caa, rfl⟩ := own_shapeJ oa; have ki := ki.on hb1)
            | (go_at_call 17; refine (HI.out.cut c len n _ _ ki HL.out HN.out.1 HN.out.2).mono ?_; rintro e w2 ⟨xb', rfl, ob, hb2⟩; obtain ⟨abb, cbb, rfl⟩ := own_shapeJ ob; have ki := ki.on hb2)
            | (go_at_call 13; refine (HI.out.plain c len _ _ ki HL.out).mono ?_; rintro e w3 ⟨xd', rfl, od, hb3⟩; obtain ⟨add, cdd, rfl⟩ := own_shapeJ od; have ki := ki.on hb3)
            | (go_at_call 14; refine (HI.out.noise c len _ _ ki HL.out).mono ?_; rintro e w4 ⟨xe', rfl, oe, hb4⟩; obtain ⟨aee, cee, rfl⟩ := own_shapeJ oe; have ki := ki.on hb4)
            | (go_at_call 18; refine (HI.out.opens c len _ _ ki HL.out).mono ?_; rintro e w5 ⟨xf', rfl, of, hb5⟩; obtain ⟨aff, cff, rfl⟩ := own_shapeJ of; obtain ⟨x', k5, hx⟩ := KT.out.five hb1 oa hb2 ob hb3 od hb4 oe hb5 of; have HX : Hid (_) := hx; have K5 : Hid (_) := k5.on (belNew w5 (.cells #[.slice aaa (okN 320 len) caa, .slice abb (cutN c len n) cbb, .slice add (okN 48 len) cdd, .slice aee (okN 319 len) cee, .slice aff (openN c len) cff] 22)); clear k5 ki hx)
            | (refine atAppL (.tmp 85) (.tmp 91) rfl ?_; go_must (refine wpList_appL (b := 0) (x := x') (cs := #[.slice aaa (okN 320 len) caa, .slice abb (cutN c len n) cbb, .slice add (okN 48 len) cdd, .slice aee (okN 319 len) cee, .slice aff (openN c len) cff]) rfl (.tmp 85) (.tmp 91) rfl rfl rfl K5.out.own (heapNew w5 _) HX.out (one5 _ _ _ _ _ _ _ _ _ _ _ _ _ _ _) (by have := HT.out; omega) K5.out.hB ?_; intro lv' W6 own6 gr6; have K6 := K5.out.app (n := 5) (by omega) own6 (grown_row gr6))))
          go_roundw
          case rel => exact ⟨t + 1, by have := HT.out; omega, by go_num, x', K6⟩
          case measure => have := HT.out; simp [intOf]; omega
        · have et : t = 2 := by omega
          subst et
          have i1 : ¬ ((2 : Nat) : Int) < 2 := by omega
          obtain ⟨Lb, lcap, eL, _, _, _⟩ := ownL_cells kt.own (by omega)
          have eL' : u8 = .slice (some ⟨Lb, 0, none⟩) 10 lcap := eL
          subst eL'
          have K0 : Hid (KwT Ws.heap.size F cp (len + 400) q w0 (nF c len n) (fF c len) 0 10 Lb lcap (.slice none 0 0) x wr) := ⟨kt.ro, kt.fam, kt.own, World.ownsRow_nil _ _ _ _, by simp [Value.ownBlock], kt.hB, kt.fB, by omega⟩
          clear kt ht ht2 eL
          rw [show ((2 : Nat) : Int) = 2 from rfl]
          go_wp2_with fail
          go_loopw [9, 22] (fun wv i W => ∃ k : Nat, k ≤ 10 ∧ i = .int .i64 k ∧ ∃ x, KwT Ws.heap.size F cp (len + 400) q w0 (nF c len n) (fF c len) k (10 + k) Lb lcap wv x W) (fun _ i _ => 10 - (intOf i).toNat)
          case atStart => exact ⟨0, by omega, rfl, _, K0.out⟩
          case round =>
            obtain ⟨k, hk, rfl, x, kt⟩ := hrel
            clear K0
            by_cases hk2 : k < 10
            · have i1 : (k : Int) < 10 := by omega
              have HK : Hid (k < 10) := hk2
              have KT : Hid (_) := kt
              have ox := kt.fam.rows k (by omega)
              obtain ⟨ax, cx, ex⟩ := own_shapeJ ox
              rw [ex] at ox
              have cl := ownL_at kt.lo hk2
              rw [Nat.zero_add, ex] at cl
              have cl2 : (wr.alloc (.cells #[] 5)).cell? ⟨Lb, k, none⟩ = some (.slice ax (nF c len n k) cx) := by
                rw [cell_below (belNew wr _) (kt.lo.lt Lb rfl).2]; exact cl
              have FB := fF_lt n CB.out k
              have SX : Hid (SliceZ wr (.slice ax (nF c len n k) cx) (nF c len n k) (fF c len k)) := own_sliceZ ox FB
              have EN : Hid (nF c len n (10 + k) = nF c len n k ∧ fF c len (10 + k) = fF c len k ∧ nF c len n k ≤ 320) := by
                refine ⟨?_, ?_, nF_le _ _ _ _⟩
                · unfold nF; rw [show (10 + k) % 5 = k % 5 by omega]
                · unfold fF; rw [show (10 + k) % 5 = k % 5 by omega]
              obtain ⟨aw, cw, ew⟩ : ∃ aw cw, u9 = .slice aw k cw := by
                rcases kt.wo.2 with ⟨e, e2⟩ | ⟨g, cap, cur, e, _⟩
                · exact ⟨_, _, by rw [e, e2]⟩
                · exact ⟨_, _, e⟩
              subst ew
              clear kt hk hk2 ox cl FB
              go_wp2_with (first
                | (refine atAppB (.tmp 100) (.tmp 104) rfl ?_; go_must (refine wpList_appS (B := wr.heap.size) (n := 0) (m := nF c len n k) (p := fF c len k) rfl (.tmp 100) (.tmp 104) rfl rfl rfl (own_none wr (fF c len k)) (sliceN_cg (SX.out.sl.on (belNew wr _)) (fun j _ => by rw [Nat.zero_add])) SX.out.nil (by have := EN.out.2.2; omega) (by simp) ?_; intro u3 W3 own3 gr3; have b3 : Below wr.heap.size wr W3 := below_grown (belNew wr _) (by simp) (own_none wr (fF c len k)) gr3; rw [Nat.zero_add] at own3; clear gr3; obtain ⟨a3, c3, rfl⟩ := own_shapeJ own3; have K3 := KT.out.add b3 (r := .slice a3 (nF c len n k) c3) (by rw [EN.out.1, EN.out.2.1]; exact own3); have K4 : Hid (_) := K3.on (belNew W3 (.cells #[.slice a3 (nF c len n k) c3] 22)); clear K3 own3))
                | (refine atAppL (.tmp 99) (.tmp 106) rfl ?_; go_must (refine wpList_appL (b := 10) (n := k) (m := 1) (x := updX x (10 + k) (.slice a3 (nF c len n k) c3)) (cs := #[.slice a3 (nF c len n k) c3]) rfl (.tmp 99) (.tmp 106) rfl rfl rfl K4.out.wo (heapNew W3 _) (by show [Value.slice a3 (nF c len n k) c3] = [updX x (10 + k) (.slice a3 (nF c len n k) c3) (10 + k + 0)]; rw [Nat.add_zero, updX_at]) (by intro u hu; simp only [List.mem_singleton] at hu; rw [hu]; rfl) (by have := HK.out; omega) K4.out.hB ?_; intro wv' W5 own5 gr5; have K5 := K4.out.app (by omega) own5 gr5)))
              go_roundw
              case rel => exact ⟨k + 1, by have := HK.out; omega, by go_num, _, K5⟩
              case measure => have := HK.out; simp [intOf]; omega
            · have ek : k = 10 := by omega
              subst ek
              have i1 : ¬ ((10 : Nat) : Int) < 10 := by omega
              obtain ⟨Wb, wcap, eW, _, _, _⟩ := ownL_cells kt.wo (by omega)
              subst eW
              have K0 : Hid (KwT Ws.heap.size F cp (len + 400) q w0 (nF c len n) (fF c len) 10 20 Lb lcap (.slice (some ⟨Wb, 0, none⟩) 10 wcap) x wr) := kt
              clear kt hk hk2
              rw [show ((10 : Nat) : Int) = 10 from rfl]
              go_wp2_with fail
              go_loopw [23] (fun i W => ∃ k : Nat, k ≤ 5 ∧ i = .int .i64 k ∧ KwT Ws.heap.size F cp (len + 400) q w0 (nF c len n) (fF c len) 10 20 Lb lcap (.slice (some ⟨Wb, 0, none⟩) 10 wcap) x W) (fun i _ => 5 - (intOf i).toNat)
              case atStart => exact ⟨0, by omega, rfl, K0.out⟩
              case round =>
                obtain ⟨k, hk, rfl, kt⟩ := hrel
                clear K0
                have KT : Hid (KwT Ws.heap.size F cp (len + 400) q w0 (nF c len n) (fF c len) 10 20 Lb lcap (.slice (some ⟨Wb, 0, none⟩) 10 wcap) x wr) := kt
                clear kt
                by_cases hk2 : k < 5
                · have i1 : (k : Int) < 5 := by omega
                  have HK : Hid (k < 5) := hk2
                  have EN : Hid (nF c len n (10 + k) = nF c len n k ∧ fF c len (10 + k) = fF c len k ∧ nF c len n (10 + (k + 5)) = nF c len n k ∧ fF c len (10 + (k + 5)) = fF c len k) := by
                    unfold nF fF
                    rw [show (10 + k) % 5 = k % 5 by omega, show (10 + (k + 5)) % 5 = k % 5 by omega]
                    exact ⟨rfl, rfl, rfl, rfl⟩
                  clear hk hk2
                  go_wp2_with fail
                  refine wp_region_slotsA 12 256 [112, 113, 114, 115, 116, 117, 118, 119, 120, 121, 122, 123] (fun j r _ => r = cmV Wb wcap k (x (10 + k)) (x (10 + (k + 5))) (strN (fF c len k) (nF c len n k)) j) (by kernel_rfl) (by kernel_rfl) (by kernel_rfl) (by decide) rfl rfl (by decide) (by decide) (fun _ _ _ _ h _ => h) ?_ ?_
                  · intro j hj a U hB hf hdep
                    have kU := KT.out.on hB
                    have lk := HK.out
                    have s1 : SliceN U (x (10 + k)) (nF c len n k) (fF c len k) := by
                      have h := own_slice (kU.fam.rows (10 + k) (by omega)) (fF_lt n CB.out _)
                      rw [EN.out.1, EN.out.2.1] at h
                      exact h
                    have s2 : SliceN U (x (10 + (k + 5))) (nF c len n k) (fF c len k) := by
                      have h := own_slice (kU.fam.rows (10 + (k + 5)) (by omega)) (fF_lt n CB.out _)
                      rw [EN.out.2.2.1, EN.out.2.2.2] at h
                      exact h
                    match j, hj with
                    | 0, _ => exact stepV rfl rfl (execMvB rfl (hf 9 (by decide))) ⟨_, rfl, rfl, Below.refl _ _⟩
                    | 1, _ => exact stepV rfl rfl (execMvB rfl (hf 23 (by decide))) ⟨_, rfl, rfl, Below.refl _ _⟩
                    | 2, _ => exact stepV rfl rfl (execIdxL rfl (hdep _ rfl 0 rfl) (hdep _ rfl 1 rfl) (by omega)) ⟨_, rfl, rfl, Below.refl _ _⟩
                    | 3, _ => exact stepV rfl rfl (execLdL rfl (hdep _ rfl 2 rfl) (ownL_at kU.wo (by omega))) ⟨_, rfl, rfl, Below.refl _ _⟩
                    | 4, _ => exact stepV rfl rfl (execStr rfl (hdep _ rfl 3 rfl) s1) ⟨_, rfl, rfl, Below.refl _ _⟩
                    | 5, _ => exact stepV rfl rfl (execMvB rfl (hf 9 (by decide))) ⟨_, rfl, rfl, Below.refl _ _⟩
                    | 6, _ => exact stepV rfl rfl (execMvB rfl (hf 23 (by decide))) ⟨_, rfl, rfl, Below.refl _ _⟩
                    | 7, _ => exact stepV rfl rfl (execAddI (q := 5) rfl (hdep _ rfl 6 rfl) rfl (by omega)) ⟨_, rfl, rfl, Below.refl _ _⟩
                    | 8, _ => exact stepV rfl rfl (execIdxL rfl (hdep _ rfl 5 rfl) (hdep _ rfl 7 rfl) (by omega)) ⟨_, rfl, rfl, Below.refl _ _⟩
                    | 9, _ => exact stepV rfl rfl (execLdL rfl (hdep _ rfl 8 rfl) (ownL_at kU.wo (by omega))) ⟨_, rfl, rfl, Below.refl _ _⟩
                    | 10, _ => exact stepV rfl rfl (execStr rfl (hdep _ rfl 9 rfl) s2) ⟨_, rfl, rfl, Below.refl _ _⟩
                    | 11, _ => exact stepV rfl rfl (execNeqS rfl (hdep _ rfl 4 rfl) (hdep _ rfl 10 rfl)) ⟨_, rfl, rfl, Below.refl _ _⟩
                    | n + 12, h => exact absurd h (by omega)
                  · intro y U hB hS
                    have y11 : y 11 = .bool false := hS 11 (by omega)
                    have K1 := KT.out.on hB
                    simp only [putL, List.drop_succ_cons, List.drop_zero, Act.put, List.setIfInBounds_toArray, List.set_cons_succ, List.set_cons_zero, y11]
                    clear hS y11
                    go_wp2
                    go_roundw
                    case rel => exact ⟨k + 1, by have := HK.out; omega, by go_num, K1⟩
                    case measure => have := HK.out; simp [intOf]; omega
                · have i1 : ¬ (k : Int) < 5 := by omega
                  clear hk hk2
                  go_wp2_with fail
                  have NL : Hid (∀ t, nF c len n t ≤ 320) := nF_le c len n
                  have K0 : Hid (KwT Ws.heap.size F cp (len + 400) q w0 (nF c len n) (mkF (fF c len) 0 0) 10 20 Lb lcap (.slice (some ⟨Wb, 0, none⟩) 10 wcap) x wr) := by
                    show KwT Ws.heap.size F cp (len + 400) q w0 (nF c len n) (mkF (fF c len) 0 0) 10 20 Lb lcap (.slice (some ⟨Wb, 0, none⟩) 10 wcap) x wr
                    rw [mkF_zero]; exact KT.out
                  clear KT
                  go_loopw [24] (fun y W => ∃ i : Nat, i ≤ 10 ∧ y = .int .i64 i ∧ KwT Ws.heap.size F cp (len + 400) q w0 (nF c len n) (mkF (fF c len) i 0) 10 20 Lb lcap (.slice (some ⟨Wb, 0, none⟩) 10 wcap) x W) (fun y _ => 10 - (intOf y).toNat)
                  case atStart => exact ⟨0, by omega, rfl, K0.out⟩
                  case round =>
                    obtain ⟨i, hi, rfl, kt⟩ := hrel
                    clear K0
                    by_cases hi2 : i < 10
                    · have i2 : (i : Int) < 10 := by omega
                      obtain ⟨ax, cx, ex⟩ := own_shapeJ (kt.fam.rows i (by omega))
                      have HX : Hid (x i = .slice ax (nF c len n i) cx) := ex
                      have HJ : Hid (i < 10) := hi2
                      have nb : (nF c len n i : Int) ≤ 320 := by have := NL.out i; omega
                      have K1 : Hid (_) := kt
                      clear kt hi hi2 ex
                      go_wp2_with fail
                      go_loopw [25] (fun y W => ∃ j : Nat, j ≤ nF c len n i ∧ y = .int .i64 j ∧ KwT Ws.heap.size F cp (len + 400) q w0 (nF c len n) (mkF (fF c len) i j) 10 20 Lb lcap (.slice (some ⟨Wb, 0, none⟩) 10 wcap) x W) (fun y _ => nF c len n i - (intOf y).toNat)
                      case atStart => exact ⟨0, by omega, rfl, K1.out⟩
                      case round =>
                        obtain ⟨j, hj, rfl, kt⟩ := hrel
                        clear K1
                        have cl : wr.cell? ⟨Lb, i, none⟩ = some (.slice ax (nF c len n i) cx) := by
                          have h := ownL_at kt.lo HJ.out
                          rw [Nat.zero_add, HX.out] at h
                          exact h
                        by_cases hj2 : j < nF c len n i
                        · have i3 : (j : Int) < (nF c len n i : Int) := by omega
                          obtain ⟨g, cap, eg, gB, _, cg⟩ := own_cells (kt.fam.rows i (by have := HJ.out; omega)) (by omega)
                          have eg2 := eg
                          rw [HX.out] at eg2
                          injection eg2 with eg2 _ eg3
                          subst eg2 eg3
                          have c2 := cg j hj2
                          obtain ⟨cur, hg⟩ := own_type (kt.fam.rows i (by have := HJ.out; omega)) (k := g) (by rw [HX.out]; rfl)
                          have c3 : wr.frozen? ⟨g, j, none⟩ = false := frozen4 hg
                          obtain ⟨i', hi'⟩ : ∃ i', i + 1 = i' := ⟨_, rfl⟩
                          have e1 : (i : Int) + 1 = i' := by omega
                          have e2 : (i' : Int) ≤ 10 := by omega
                          have KM : Hid (KwT Ws.heap.size F cp (len + 400) q w0 (nF c len n) (mkF (fF c len) i (j + 1)) 10 20 Lb lcap (.slice (some ⟨Wb, 0, none⟩) 10 wcap) x (wr.setCell ⟨g, j, none⟩ (.int .u8 (i' : Int)))) := by
                            have h := kt.mark (i := i) (j := j) (by have := HJ.out; omega) HX.out
                            rw [hi'] at h
                            exact h
                          have HJJ : Hid (j < nF c len n i) := hj2
                          clear kt cg eg hg gB hj hj2 hi'
                          go_wp2
                          go_roundw
                          case rel => exact ⟨j + 1, by have := HJJ.out; omega, by go_num, KM.out⟩
                          case measure => have := HJJ.out; simp [intOf]; omega
                        · have i3 : ¬ (j : Int) < (nF c len n i : Int) := by omega
                          have ej : j = nF c len n i := by omega
                          have K2 : KwT Ws.heap.size F cp (len + 400) q w0 (nF c len n) (mkF (fF c len) (i + 1) 0) 10 20 Lb lcap (.slice (some ⟨Wb, 0, none⟩) 10 wcap) x wr := kt.cg fun t _ l hl => by
                            unfold mkF
                            by_cases h1 : t < i
                            · rw [if_pos h1, if_pos (by omega)]
                            · rw [if_neg h1]
                              by_cases h2 : t = i
                              · subst h2; rw [if_pos ⟨rfl, by omega⟩, if_pos (by omega)]
                              · rw [if_neg (fun q => h2 q.1), if_neg (by omega), if_neg (fun q => by omega)]
                          clear kt hj hj2 ej
                          go_wp2
                          go_roundw
                          case rel => exact ⟨i + 1, by have := HJ.out; omega, by go_num, K2⟩
                          case measure => have := HJ.out; simp [intOf]; omega
                    · have i2 : ¬ ((10 : Nat) : Int) < 10 := by omega
                      have ei : i = 10 := by omega
                      subst ei
                      rw [show ((10 : Nat) : Int) = 10 from rfl]
                      have MV : Hid (∀ t, t < 10 → ∀ l, mkF (fF c len) 10 0 t l = t + 1) := fun t ht l => if_pos ht
                      obtain ⟨mk, hmk⟩ : ∃ mk, mkF (fF c len) 10 0 = mk := ⟨_, rfl⟩
                      have HMK : Hid (mkF (fF c len) 10 0 = mk) := hmk
                      rw [hmk] at kt MV
                      have K0 : Hid (KwT Ws.heap.size F cp (len + 400) q w0 (nF c len n) mk 10 20 Lb lcap (.slice (some ⟨Wb, 0, none⟩) 10 wcap) x wr) := kt
                      clear kt hi hi2 hmk
                      go_wp2_with fail
                      go_loopw [26] (fun y W => ∃ r : Nat, r ≤ 2 ∧ y = .int .i64 r ∧ KwT Ws.heap.size F cp (len + 400) q w0 (nF c len n) mk 10 20 Lb lcap (.slice (some ⟨Wb, 0, none⟩) 10 wcap) x W) (fun y _ => 2 - (intOf y).toNat)
                      case atStart => exact ⟨0, by omega, rfl, K0.out⟩
                      case round =>
                        obtain ⟨r, hr, rfl, kt⟩ := hrel
                        clear K0
                        by_cases hr2 : r < 2
                        · have i3 : (r : Int) < 2 := by omega
                          have HR : Hid (r < 2) := hr2
                          have K1 : Hid (KwT Ws.heap.size F cp (len + 400) q w0 (nF c len n) mk 10 20 Lb lcap (.slice (some ⟨Wb, 0, none⟩) 10 wcap) x wr) := kt
                          clear kt hr hr2
                          go_wp2_with fail
                          go_loopw [27] (fun y W => ∃ i : Nat, i ≤ 10 ∧ y = .int .i64 i ∧ KwT Ws.heap.size F cp (len + 400) q w0 (nF c len n) mk 10 20 Lb lcap (.slice (some ⟨Wb, 0, none⟩) 10 wcap) x W) (fun y _ => 10 - (intOf y).toNat)
                          case atStart => exact ⟨0, by omega, rfl, K1.out⟩
                          case round =>
                            obtain ⟨i, hi, rfl, kt⟩ := hrel
                            clear K1
                            by_cases hi2 : i < 10
                            · have i4 : (i : Int) < 10 := by omega
                              obtain ⟨ax, cx, ex⟩ := own_shapeJ (kt.fam.rows i (by omega))
                              have HX : Hid (x i = .slice ax (nF c len n i) cx) := ex
                              have HJ : Hid (i < 10) := hi2
                              have nb : (nF c len n i : Int) ≤ 320 := by have := NL.out i; omega
                              have cl : wr.cell? ⟨Lb, i, none⟩ = some (.slice ax (nF c len n i) cx) := by
                                have h := ownL_at kt.lo hi2
                                rw [Nat.zero_add, ex] at h
                                exact h
                              have K2 : Hid (KwT Ws.heap.size F cp (len + 400) q w0 (nF c len n) mk 10 20 Lb lcap (.slice (some ⟨Wb, 0, none⟩) 10 wcap) x wr) := kt
                              clear kt hi hi2 ex
                              go_wp2_with fail
                              clear cl
                              go_loopw [29] (fun y W => ∃ j : Nat, j ≤ nF c len n i ∧ y = .int .i64 j ∧ KwT Ws.heap.size F cp (len + 400) q w0 (nF c len n) mk 10 20 Lb lcap (.slice (some ⟨Wb, 0, none⟩) 10 wcap) x W) (fun y _ => nF c len n i - (intOf y).toNat)
                              case atStart => exact ⟨0, by omega, rfl, K2.out⟩
                              case round =>
                                obtain ⟨j, hj, rfl, kt⟩ := hrel
                                clear K2
                                by_cases hj2 : j < nF c len n i
                                · have i5 : (j : Int) < (nF c len n i : Int) := by omega
                                  obtain ⟨g, cap, eg, gB, _, cg⟩ := own_cells (kt.fam.rows i (by have := HJ.out; omega)) (by omega)
                                  rw [HX.out] at eg
                                  injection eg with eg2 _ eg3
                                  subst eg2 eg3
                                  obtain ⟨i', hi'⟩ : ∃ i', i + 1 = i' := ⟨_, rfl⟩
                                  have e1 : (i : Int) + 1 = i' := by omega
                                  have e2 : (i' : Int) ≤ 10 := by have := HJ.out; omega
                                  have c2 : wr.cell? ⟨g, j, none⟩ = some (.int .u8 i') := by rw [cg j hj2, MV.out i HJ.out, hi']
                                  have HJJ : Hid (j < nF c len n i) := hj2
                                  clear cg gB hj hj2 hi'
                                  go_wp2
                                  go_roundw
                                  case rel => exact ⟨j + 1, by have := HJJ.out; omega, by go_num, kt⟩
                                  case measure => have := HJJ.out; simp [intOf]; omega
                                · have i5 : ¬ (j : Int) < (nF c len n i : Int) := by omega
                                  have K3 : Hid (KwT Ws.heap.size F cp (len + 400) q w0 (nF c len n) mk 10 20 Lb lcap (.slice (some ⟨Wb, 0, none⟩) 10 wcap) x wr ∧ wr.ownsRow Ws.heap.size 5 1 (.slice ax (nF c len n i) cx) (nF c len n i + 0) (bytesL (nF c len n i + 0) (gRF (mk i) (nF c len n i)))) := by
                                    refine ⟨kt, ?_⟩
                                    have h := kt.fam.rows i (by have := HJ.out; omega)
                                    rw [HX.out] at h
                                    rw [Nat.add_zero, ← bytesL_congr (f := mk i) (fun l hl => by unfold gRF; rw [if_pos hl])]
                                    exact h
                                  clear kt hj hj2
                                  go_wp2_with fail
                                  go_loopw [28, 30] (fun u y W => ∃ k : Nat, k ≤ 400 ∧ y = .int .i64 k ∧ KwT Ws.heap.size F cp (len + 400) q w0 (nF c len n) mk 10 20 Lb lcap (.slice (some ⟨Wb, 0, none⟩) 10 wcap) x W ∧ W.ownsRow Ws.heap.size 5 1 u (nF c len n i + k) (bytesL (nF c len n i + k) (gRF (mk i) (nF c len n i))) ∧ (u.ownBlock = (x i).ownBlock ∨ ∀ t, t < 20 → Dis u (x t))) (fun _ y _ => 400 - (intOf y).toNat)
                                  case atStart => exact ⟨0, by omega, rfl, K3.out.1, K3.out.2, .inl (by rw [HX.out])⟩
                                  case round =>
                                    obtain ⟨k2, hk, rfl, kt, ou, pl⟩ := hrel
                                    clear K3
                                    obtain ⟨au, cu, rfl⟩ := own_shapeJ ou
                                    by_cases hk2 : k2 < 400
                                    · have i6 : (k2 : Int) < 400 := by omega
                                      have HK : Hid (k2 < 400) := hk2
                                      have KT : Hid (_) := kt.on (belNew wr (.cells #[.int .u8 238] 5))
                                      have OU : Hid (_) := ownsRow_below ou (belNew wr (.cells #[.int .u8 238] 5))
                                      have PL : Hid (_) := pl
                                      clear kt ou pl hk hk2
                                      go_wp2_with (refine atAppB (.tmp 180) (.tmp 181) rfl ?_; go_must (refine wpList_appR (B := Ws.heap.size) (n := nF c len n i + k2) (g := wr.heap.size) (p := gRF (mk i) (nF c len n i)) rfl (.tmp 180) (.tmp 181) rfl rfl rfl OU.out (by rw [show gRF (mk i) (nF c len n i) (nF c len n i + k2) = 238 from if_neg (by omega)]; exact heapNew wr _) (by have := HK.out; have := NL.out i; omega) KT.out.hB ?_; intro u2 W2 own2 gr2; obtain ⟨K4, P4⟩ := KT.out.grow (by have := HJ.out; omega) OU.out PL.out own2 gr2; clear gr2))
                                      go_roundw
                                      case rel => exact ⟨k2 + 1, by have := HK.out; omega, by go_num, K4, own2, P4⟩
                                      case measure => have := HK.out; simp [intOf]; omega
                                    · have i6 : ¬ (k2 : Int) < 400 := by omega
                                      clear ou pl
                                      go_wp2
                                      go_roundw
                                      case rel => exact ⟨i + 1, by have := HJ.out; omega, by go_num, kt⟩
                                      case measure => have := HJ.out; simp [intOf]; omega
                            · have i4 : ¬ (i : Int) < 10 := by omega
                              go_wp2
                              go_roundw
                              case rel => exact ⟨r + 1, by have := HR.out; omega, by go_num, kt⟩
                              case measure => have := HR.out; simp [intOf]; omega
                        · have i3 : ¬ (r : Int) < 2 := by omega
                          have K0 : Hid (KwT Ws.heap.size F cp (len + 400) q w0 (nF c len n) mk 10 20 Lb lcap (.slice (some ⟨Wb, 0, none⟩) 10 wcap) x wr) := kt
                          clear kt hr hr2
                          go_wp2_with fail
                          go_loopw [31] (fun y W => ∃ i : Nat, i ≤ len + 400 ∧ y = .int .i64 i ∧ KwT Ws.heap.size F cp (len + 400) q w0 (nF c len n) mk 10 20 Lb lcap (.slice (some ⟨Wb, 0, none⟩) 10 wcap) x W) (fun y _ => len + 400 - (intOf y).toNat)
                          case atStart => exact ⟨0, by omega, rfl, K0.out⟩
                          case round =>
                           obtain ⟨i, hi, rfl, kt⟩ := hrel
                           clear K0
                           have K1 : Hid (KwT Ws.heap.size F cp (len + 400) q w0 (nF c len n) mk 10 20 Lb lcap (.slice (some ⟨Wb, 0, none⟩) 10 wcap) x wr) := kt
                           clear kt
                           by_cases hit : i < len + 400
                           · have i4 : (i : Int) < (len : Int) + 400 := by omega
                             have HIT : Hid (i < len + 400) := hit
                             clear hi hit
                             by_cases hin : i < len
                             · have HIN : Hid (i < len) := hin
                               obtain ⟨bv, ov, cv', ev, _, _, hcv⟩ := cell_at sv.out.sl (by omega)
                               have LV : Hid (bv < w0.heap.size) := World.block_lt_of_cell? w0 _ (hcv 0 (by omega))
                               injection ev with ev1 _ ev3
                               subst ev3
                               obtain ⟨y, hy⟩ : ∃ y, c i = y := ⟨_, rfl⟩
                               have HY : Hid (q i = y) := by show q i = y; rw [HQ.out.2.2 i hin, hy]
                               have CV : Hid (w0.cell? ⟨bv, ov + i, none⟩ = some (.int .u8 y)) := by show w0.cell? _ = _; rw [hcv i hin, hy]
                               subst ev1
                               clear hcv hy hin
                               go_wp2_with fail
                               refine wp_region_slotsA 28 256 [189, 190, 191, 192, 193, 194, 195, 196, 197, 198, 199, 200, 201, 202, 203, 204, 205, 206, 207, 208, 209, 210, 211, 212, 213, 214, 215, 216] (fun j r _ => r = rkV true i len (.slice (some ⟨bv, ov, none⟩) len cv) (.slice (some ⟨F, 0, none⟩) (len + 400) cp) F bv ov y j) (by kernel_rfl) (by kernel_rfl) (by kernel_rfl) (by decide) rfl rfl (by decide) (by decide) (fun _ _ _ _ h _ => h) ?_ ?_
                               · intro j hj a U hB hf hdep
                                 have kU := K1.out.on hB
                                 have hin := HIN.out
                                 have hit := HIT.out
                                 have cF : U.cell? ⟨F, i, none⟩ = some (.int .u8 y) := by rw [kU.ro.cell (by omega), HY.out]
                                 have cV : U.cell? ⟨bv, ov + i, none⟩ = some (.int .u8 y) := by rw [cell_below kU.ro.bel LV.out, CV.out]
                                 match j, hj with
                                 | 0, _ => exact stepV rfl rfl (execMvB rfl (hf 31 (by decide))) ⟨_, rfl, rfl, Below.refl _ _⟩
                                 | 1, _ => exact stepV rfl rfl (execMvB rfl (hf 0 (by decide))) ⟨_, rfl, rfl, Below.refl _ _⟩
                                 | 2, _ => exact stepV rfl rfl (execLenV (len := len) rfl (hdep _ rfl 1 rfl) ⟨_, _, rfl⟩) ⟨_, rfl, rfl, Below.refl _ _⟩
                                 | 3, _ => exact stepV rfl rfl (execLssT rfl (hdep _ rfl 0 rfl) (hdep _ rfl 2 rfl) hin) ⟨_, rfl, rfl, Below.refl _ _⟩
                                 | 4, _ => exact stepV rfl rfl (execMvB rfl (hdep _ rfl 3 rfl)) ⟨_, rfl, rfl, Below.refl _ _⟩
                                 | 5, _ => exact stepV rfl (wantedOf rfl (yieldedAt rfl rfl (show a.eval (.tmp 193) = .bool true from hdep _ rfl 4 rfl))) (execMvB rfl (hf 5 (by decide))) ⟨_, rfl, rfl, Below.refl _ _⟩
                                 | 6, _ => exact stepV rfl (wantedOf rfl (yieldedAt rfl rfl (show a.eval (.tmp 193) = .bool true from hdep _ rfl 4 rfl))) (execMvB rfl (hf 31 (by decide))) ⟨_, rfl, rfl, Below.refl _ _⟩
                                 | 7, _ => exact stepV rfl (wantedOf rfl (yieldedAt rfl rfl (show a.eval (.tmp 193) = .bool true from hdep _ rfl 4 rfl))) (execIdxS0 rfl (hdep _ rfl 5 rfl) (hdep _ rfl 6 rfl) (by omega)) ⟨_, rfl, rfl, Below.refl _ _⟩
                                 | 8, _ => exact stepV rfl (wantedOf rfl (yieldedAt rfl rfl (show a.eval (.tmp 193) = .bool true from hdep _ rfl 4 rfl))) (execLdB rfl (hdep _ rfl 7 rfl) cF) ⟨_, rfl, rfl, Below.refl _ _⟩
                                 | 9, _ => exact stepV rfl (wantedOf rfl (yieldedAt rfl rfl (show a.eval (.tmp 193) = .bool true from hdep _ rfl 4 rfl))) (execMvB rfl (hf 0 (by decide))) ⟨_, rfl, rfl, Below.refl _ _⟩
                                 | 10, _ => exact stepV rfl (wantedOf rfl (yieldedAt rfl rfl (show a.eval (.tmp 193) = .bool true from hdep _ rfl 4 rfl))) (execMvB rfl (hf 31 (by decide))) ⟨_, rfl, rfl, Below.refl _ _⟩
                                 | 11, _ => exact stepV rfl (wantedOf rfl (yieldedAt rfl rfl (show a.eval (.tmp 193) = .bool true from hdep _ rfl 4 rfl))) (execIdxS rfl (hdep _ rfl 9 rfl) (hdep _ rfl 10 rfl) hin) ⟨_, rfl, rfl, Below.refl _ _⟩
                                 | 12, _ => exact stepV rfl (wantedOf rfl (yieldedAt rfl rfl (show a.eval (.tmp 193) = .bool true from hdep _ rfl 4 rfl))) (execLdB rfl (hdep _ rfl 11 rfl) cV) ⟨_, rfl, rfl, Below.refl _ _⟩
                                 | 13, _ => exact stepV rfl (wantedOf rfl (yieldedAt rfl rfl (show a.eval (.tmp 193) = .bool true from hdep _ rfl 4 rfl))) (execNe5 rfl (hdep _ rfl 8 rfl) (hdep _ rfl 12 rfl)) ⟨_, rfl, rfl, Below.refl _ _⟩
                                 | 14, _ => exact stepV rfl rfl (execPick rfl (show a.eval (.tmp 193) = .bool true from hdep _ rfl 4 rfl) (hdep _ rfl 13 rfl)) ⟨_, rfl, rfl, Below.refl _ _⟩
                                 | 15, _ => exact stepV rfl rfl (execMvB rfl (hdep _ rfl 14 rfl)) ⟨_, rfl, rfl, Below.refl _ _⟩
                                 | 16, _ => exact stepV rfl (wantedOf rfl (yieldedAt rfl rfl (show a.eval (.tmp 204) = .bool false from hdep _ rfl 15 rfl))) (execMvB rfl (hf 31 (by decide))) ⟨_, rfl, rfl, Below.refl _ _⟩
                                 | 17, _ => exact stepV rfl (wantedOf rfl (yieldedAt rfl rfl (show a.eval (.tmp 204) = .bool false from hdep _ rfl 15 rfl))) (execMvB rfl (hf 0 (by decide))) ⟨_, rfl, rfl, Below.refl _ _⟩
                                 | 18, _ => exact stepV rfl (wantedOf rfl (yieldedAt rfl rfl (show a.eval (.tmp 204) = .bool false from hdep _ rfl 15 rfl))) (execLenV (len := len) rfl (hdep _ rfl 17 rfl) ⟨_, _, rfl⟩) ⟨_, rfl, rfl, Below.refl _ _⟩
                                 | 19, _ => exact stepV rfl (wantedOf rfl (yieldedAt rfl rfl (show a.eval (.tmp 204) = .bool false from hdep _ rfl 15 rfl))) (execGeqF rfl (hdep _ rfl 16 rfl) (hdep _ rfl 18 rfl) (by omega)) ⟨_, rfl, rfl, Below.refl _ _⟩
                                 | 20, _ => exact stepV rfl (wantedOf rfl (yieldedAt rfl rfl (show a.eval (.tmp 204) = .bool false from hdep _ rfl 15 rfl))) (execMvB rfl (hdep _ rfl 19 rfl)) ⟨_, rfl, rfl, Below.refl _ _⟩
                                 | 21, _ => exact stepU rfl (unwantedOf rfl (yieldedAt rfl rfl (show a.eval (.tmp 209) = .bool false from hdep _ rfl 20 rfl))) ⟨_, rfl, rfl, Below.refl _ _⟩
                                 | 22, _ => exact stepU rfl (unwantedOf rfl (yieldedAt rfl rfl (show a.eval (.tmp 209) = .bool false from hdep _ rfl 20 rfl))) ⟨_, rfl, rfl, Below.refl _ _⟩
                                 | 23, _ => exact stepU rfl (unwantedOf rfl (yieldedAt rfl rfl (show a.eval (.tmp 209) = .bool false from hdep _ rfl 20 rfl))) ⟨_, rfl, rfl, Below.refl _ _⟩
                                 | 24, _ => exact stepU rfl (unwantedOf rfl (yieldedAt rfl rfl (show a.eval (.tmp 209) = .bool false from hdep _ rfl 20 rfl))) ⟨_, rfl, rfl, Below.refl _ _⟩
                                 | 25, _ => exact stepU rfl (unwantedOf rfl (yieldedAt rfl rfl (show a.eval (.tmp 209) = .bool false from hdep _ rfl 20 rfl))) ⟨_, rfl, rfl, Below.refl _ _⟩
                                 | 26, _ => exact stepV rfl (wantedOf rfl (yieldedAt rfl rfl (show a.eval (.tmp 204) = .bool false from hdep _ rfl 15 rfl))) (execPick rfl (show a.eval (.tmp 209) = .bool false from hdep _ rfl 20 rfl) rfl) ⟨_, rfl, rfl, Below.refl _ _⟩
                                 | 27, _ => exact stepV rfl rfl (execPick rfl (show a.eval (.tmp 204) = .bool false from hdep _ rfl 15 rfl) (hdep _ rfl 26 rfl)) ⟨_, rfl, rfl, Below.refl _ _⟩
                                 | n + 28, h => exact absurd h (by omega)
                               · intro y2 U hB hS
                                 have y27 : y2 27 = .bool false := hS 27 (by omega)
                                 have K2 := K1.out.on hB
                                 simp only [putL, List.drop_succ_cons, List.drop_zero, Act.put, List.setIfInBounds_toArray, List.set_cons_succ, List.set_cons_zero, y27]
                                 clear hS y27
                                 go_wp2
                                 go_roundw
                                 case rel => exact ⟨i + 1, by have := HIT.out; omega, by go_num, K2⟩
                                 case measure => have := HIT.out; simp [intOf]; omega
                             · have HIN : Hid (¬ i < len) := hin
                               clear hin
                               go_wp2_with fail
                               refine wp_region_slotsA 28 256 [189, 190, 191, 192, 193, 194, 195, 196, 197, 198, 199, 200, 201, 202, 203, 204, 205, 206, 207, 208, 209, 210, 211, 212, 213, 214, 215, 216] (fun j r _ => r = rkV false i len (.slice av len cv) (.slice (some ⟨F, 0, none⟩) (len + 400) cp) F 0 0 0 j) (by kernel_rfl) (by kernel_rfl) (by kernel_rfl) (by decide) rfl rfl (by decide) (by decide) (fun _ _ _ _ h _ => h) ?_ ?_
                               · intro j hj a U hB hf hdep
                                 have kU := K1.out.on hB
                                 have hin := HIN.out
                                 have hit := HIT.out
                                 have cF : U.cell? ⟨F, i, none⟩ = some (.int .u8 165) := by rw [kU.ro.cell (by omega), HQ.out.2.1 i hin]; rfl
                                 match j, hj with
                                 | 0, _ => exact stepV rfl rfl (execMvB rfl (hf 31 (by decide))) ⟨_, rfl, rfl, Below.refl _ _⟩
                                 | 1, _ => exact stepV rfl rfl (execMvB rfl (hf 0 (by decide))) ⟨_, rfl, rfl, Below.refl _ _⟩
                                 | 2, _ => exact stepV rfl rfl (execLenV (len := len) rfl (hdep _ rfl 1 rfl) ⟨_, _, rfl⟩) ⟨_, rfl, rfl, Below.refl _ _⟩
                                 | 3, _ => exact stepV rfl rfl (execLssF rfl (hdep _ rfl 0 rfl) (hdep _ rfl 2 rfl) hin) ⟨_, rfl, rfl, Below.refl _ _⟩
                                 | 4, _ => exact stepV rfl rfl (execMvB rfl (hdep _ rfl 3 rfl)) ⟨_, rfl, rfl, Below.refl _ _⟩
                                 | 5, _ => exact stepU rfl (unwantedOf rfl (yieldedAt rfl rfl (show a.eval (.tmp 193) = .bool false from hdep _ rfl 4 rfl))) ⟨_, rfl, rfl, Below.refl _ _⟩
                                 | 6, _ => exact stepU rfl (unwantedOf rfl (yieldedAt rfl rfl (show a.eval (.tmp 193) = .bool false from hdep _ rfl 4 rfl))) ⟨_, rfl, rfl, Below.refl _ _⟩
                                 | 7, _ => exact stepU rfl (unwantedOf rfl (yieldedAt rfl rfl (show a.eval (.tmp 193) = .bool false from hdep _ rfl 4 rfl))) ⟨_, rfl, rfl, Below.refl _ _⟩
                                 | 8, _ => exact stepU rfl (unwantedOf rfl (yieldedAt rfl rfl (show a.eval (.tmp 193) = .bool false from hdep _ rfl 4 rfl))) ⟨_, rfl, rfl, Below.refl _ _⟩
                                 | 9, _ => exact stepU rfl (unwantedOf rfl (yieldedAt rfl rfl (show a.eval (.tmp 193) = .bool false from hdep _ rfl 4 rfl))) ⟨_, rfl, rfl, Below.refl _ _⟩
                                 | 10, _ => exact stepU rfl (unwantedOf rfl (yieldedAt rfl rfl (show a.eval (.tmp 193) = .bool false from hdep _ rfl 4 rfl))) ⟨_, rfl, rfl, Below.refl _ _⟩
                                 | 11, _ => exact stepU rfl (unwantedOf rfl (yieldedAt rfl rfl (show a.eval (.tmp 193) = .bool false from hdep _ rfl 4 rfl))) ⟨_, rfl, rfl, Below.refl _ _⟩
                                 | 12, _ => exact stepU rfl (unwantedOf rfl (yieldedAt rfl rfl (show a.eval (.tmp 193) = .bool false from hdep _ rfl 4 rfl))) ⟨_, rfl, rfl, Below.refl _ _⟩
                                 | 13, _ => exact stepU rfl (unwantedOf rfl (yieldedAt rfl rfl (show a.eval (.tmp 193) = .bool false from hdep _ rfl 4 rfl))) ⟨_, rfl, rfl, Below.refl _ _⟩
                                 | 14, _ => exact stepV rfl rfl (execPick rfl (show a.eval (.tmp 193) = .bool false from hdep _ rfl 4 rfl) rfl) ⟨_, rfl, rfl, Below.refl _ _⟩
                                 | 15, _ => exact stepV rfl rfl (execMvB rfl (hdep _ rfl 14 rfl)) ⟨_, rfl, rfl, Below.refl _ _⟩
                                 | 16, _ => exact stepV rfl (wantedOf rfl (yieldedAt rfl rfl (show a.eval (.tmp 204) = .bool false from hdep _ rfl 15 rfl))) (execMvB rfl (hf 31 (by decide))) ⟨_, rfl, rfl, Below.refl _ _⟩
                                 | 17, _ => exact stepV rfl (wantedOf rfl (yieldedAt rfl rfl (show a.eval (.tmp 204) = .bool false from hdep _ rfl 15 rfl))) (execMvB rfl (hf 0 (by decide))) ⟨_, rfl, rfl, Below.refl _ _⟩
                                 | 18, _ => exact stepV rfl (wantedOf rfl (yieldedAt rfl rfl (show a.eval (.tmp 204) = .bool false from hdep _ rfl 15 rfl))) (execLenV (len := len) rfl (hdep _ rfl 17 rfl) ⟨_, _, rfl⟩) ⟨_, rfl, rfl, Below.refl _ _⟩
                                 | 19, _ => exact stepV rfl (wantedOf rfl (yieldedAt rfl rfl (show a.eval (.tmp 204) = .bool false from hdep _ rfl 15 rfl))) (execGeqT rfl (hdep _ rfl 16 rfl) (hdep _ rfl 18 rfl) (by omega)) ⟨_, rfl, rfl, Below.refl _ _⟩
                                 | 20, _ => exact stepV rfl (wantedOf rfl (yieldedAt rfl rfl (show a.eval (.tmp 204) = .bool false from hdep _ rfl 15 rfl))) (execMvB rfl (hdep _ rfl 19 rfl)) ⟨_, rfl, rfl, Below.refl _ _⟩
                                 | 21, _ => exact stepV rfl (wantedOf rfl (yieldedAt rfl rfl (show a.eval (.tmp 209) = .bool true from hdep _ rfl 20 rfl))) (execMvB rfl (hf 5 (by decide))) ⟨_, rfl, rfl, Below.refl _ _⟩
                                 | 22, _ => exact stepV rfl (wantedOf rfl (yieldedAt rfl rfl (show a.eval (.tmp 209) = .bool true from hdep _ rfl 20 rfl))) (execMvB rfl (hf 31 (by decide))) ⟨_, rfl, rfl, Below.refl _ _⟩
                                 | 23, _ => exact stepV rfl (wantedOf rfl (yieldedAt rfl rfl (show a.eval (.tmp 209) = .bool true from hdep _ rfl 20 rfl))) (execIdxS0 rfl (hdep _ rfl 21 rfl) (hdep _ rfl 22 rfl) (by omega)) ⟨_, rfl, rfl, Below.refl _ _⟩
                                 | 24, _ => exact stepV rfl (wantedOf rfl (yieldedAt rfl rfl (show a.eval (.tmp 209) = .bool true from hdep _ rfl 20 rfl))) (execLdB rfl (hdep _ rfl 23 rfl) cF) ⟨_, rfl, rfl, Below.refl _ _⟩
                                 | 25, _ => exact stepV rfl (wantedOf rfl (yieldedAt rfl rfl (show a.eval (.tmp 209) = .bool true from hdep _ rfl 20 rfl))) (execNe5 rfl (hdep _ rfl 24 rfl) rfl) ⟨_, rfl, rfl, Below.refl _ _⟩
                                 | 26, _ => exact stepV rfl (wantedOf rfl (yieldedAt rfl rfl (show a.eval (.tmp 204) = .bool false from hdep _ rfl 15 rfl))) (execPick rfl (show a.eval (.tmp 209) = .bool true from hdep _ rfl 20 rfl) (hdep _ rfl 25 rfl)) ⟨_, rfl, rfl, Below.refl _ _⟩
                                 | 27, _ => exact stepV rfl rfl (execPick rfl (show a.eval (.tmp 204) = .bool false from hdep _ rfl 15 rfl) (hdep _ rfl 26 rfl)) ⟨_, rfl, rfl, Below.refl _ _⟩
                                 | n + 28, h => exact absurd h (by omega)
                               · intro y2 U hB hS
                                 have y27 : y2 27 = .bool false := hS 27 (by omega)
                                 have K2 := K1.out.on hB
                                 simp only [putL, List.drop_succ_cons, List.drop_zero, Act.put, List.setIfInBounds_toArray, List.set_cons_succ, List.set_cons_zero, y27]
                                 clear hS y27
                                 go_wp2
                                 go_roundw
                                 case rel => exact ⟨i + 1, by have := HIT.out; omega, by go_num, K2⟩
                                 case measure => have := HIT.out; simp [intOf]; omega
                           · have i4 : ¬ (i : Int) < (len : Int) + 400 := by omega
                             clear hi hit
                             go_wp2_with fail
                             obtain ⟨QX, hQX⟩ : ∃ QX : Nat → (Nat → Nat), QX = mixU (fun j => q j ^^^ 17) q := ⟨_, rfl⟩
                             have HX0 : Hid (QX 0 = q) := by
                               show QX 0 = q
                               rw [hQX]; funext l; unfold mixU; rw [if_neg (by omega)]
                             have HX1 : Hid (∀ i, QX i i = q i ∧ updN (QX i) i (q i ^^^ 17) = QX (i + 1)) := by
                               intro i
                               rw [hQX]
                               exact ⟨by unfold mixU; rw [if_neg (by omega)], updN_mixU (fun j => q j ^^^ 17) q i⟩
                             clear hQX
                             have K2 : Hid (KwT Ws.heap.size F cp (len + 400) (QX 0) w0 (nF c len n) mk 10 20 Lb lcap (.slice (some ⟨Wb, 0, none⟩) 10 wcap) x wr) := by
                               show KwT Ws.heap.size F cp (len + 400) (QX 0) w0 (nF c len n) mk 10 20 Lb lcap (.slice (some ⟨Wb, 0, none⟩) 10 wcap) x wr
                               rw [HX0.out]; exact K1.out
                             clear K1
                             go_loopw [32] (fun y W => ∃ i : Nat, i ≤ len ∧ y = .int .i64 i ∧ KwT Ws.heap.size F cp (len + 400) (QX i) w0 (nF c len n) mk 10 20 Lb lcap (.slice (some ⟨Wb, 0, none⟩) 10 wcap) x W) (fun y _ => len - (intOf y).toNat)
                             case atStart => exact ⟨0, by omega, rfl, K2.out⟩
                             case round =>
                              obtain ⟨i2, hi2, rfl, kt⟩ := hrel
                              clear K2
                              by_cases hlt : i2 < len
                              · have i5 : (i2 : Int) < len := by omega
                                obtain ⟨y, hy⟩ : ∃ y, q i2 = y := ⟨_, rfl⟩
                                have y1 : y < 256 := by rw [← hy]; exact QB.out i2
                                have c1 : wr.cell? ⟨F, i2, none⟩ = some (.int .u8 y) := by rw [kt.ro.cell (by omega), (HX1.out i2).1, hy]
                                have c2 : wr.frozen? ⟨F, i2, none⟩ = false := by obtain ⟨cc, hc, _⟩ := kt.ro.cur; exact frozen4 hc
                                have x1 : bits .xor .u8 (y : Int) 17 = ((y ^^^ 17 : Nat) : Int) := xor_u8 y1 (show 17 < 256 by omega)
                                have KN : Hid (KwT Ws.heap.size F cp (len + 400) (QX (i2 + 1)) w0 (nF c len n) mk 10 20 Lb lcap (.slice (some ⟨Wb, 0, none⟩) 10 wcap) x (wr.setCell ⟨F, i2, none⟩ (.int .u8 ((y ^^^ 17 : Nat) : Int)))) := by
                                  have h := kt.room i2 (xor_lt y1 (show 17 < 256 by omega))
                                  rw [← hy, (HX1.out i2).2] at h
                                  rw [← hy]
                                  exact h
                                have HI2 : Hid (i2 < len) := hlt
                                clear kt hy hlt hi2
                                go_wp2
                                go_roundw
                                case rel => exact ⟨i2 + 1, by have := HI2.out; omega, by go_num, KN.out⟩
                                case measure => have := HI2.out; simp [intOf]; omega
                              · have i5 : ¬ (i2 : Int) < len := by omega
                                clear hlt hi2
                                have sv2 := sv.out.on kt.ro.bel
                                have N10 : Hid (nF c len n 10 = okN 320 len ∧ nF c len n 14 = openN c len ∧ fF c len 10 = cellF 0 headO len c ∧ fF c len 14 = fun j => c (2 + j)) := ⟨(nF5 c len n 2).1, (nF5 c len n 2).2.2.2.2, (fF5 c len 2).1, (fF5 c len 2).2.2.2.2⟩
                                have M10 : Hid (∀ t, 10 ≤ t → mk t = fF c len t) := by
                                  intro t ht
                                  rw [← HMK.out]
                                  funext l
                                  unfold mkF
                                  rw [if_neg (by omega), if_neg (fun z => by omega)]
                                go_wp2_with (first
                                  | (go_at_call 12; refine (HI.out.pad c len _ _ sv2 HL.out).mono ?_; rintro e w7 ⟨xa, rfl, oa, hb7⟩; have sv2 := sv2.on hb7; have kt := kt.on hb7)
                                  | (go_at_call 18; refine (HI.out.opens c len _ _ sv2 HL.out).mono ?_; rintro e w8 ⟨xo, rfl, oo, hb8⟩; have kt := kt.on hb8; have oa := ownsRow_below oa hb8))
                                have K8 : Hid (KwT Ws.heap.size F cp (len + 400) (QX i2) w0 (nF c len n) mk 10 20 Lb lcap (.slice (some ⟨Wb, 0, none⟩) 10 wcap) x w8) := kt
                                have S1 : Hid (SliceN w8 xa (okN 320 len) (cellF 0 headO len c)) := own_slice oa (fun j _ => cellF_lt headO_lt CB.out j)
                                have S2 : Hid (SliceN w8 xo (openN c len) fun j => c (2 + j)) := own_slice oo (fun j hj => CB.out _ (openN_lt c len hj).2)
                                clear kt oa oo hb7 hb8 sv2
                                refine wp_region_slotsA 17 256 [240, 241, 242, 243, 244, 245, 246, 247, 248, 249, 250, 251, 252, 253, 254, 255, 4] (fun j r _ => r = lsV xa xo (x 10) (x 14) Wb wcap (strN (cellF 0 headO len c) (okN 320 len)) (strN (fun j => c (2 + j)) (openN c len)) j) (by kernel_rfl) (by kernel_rfl) (by kernel_rfl) (by decide) rfl rfl (by decide) (by decide) (fun _ _ _ _ h _ => h) ?_ ?_
                                · intro j hj a U hB hf hdep
                                  have kU := K8.out.on hB
                                  have s10 : SliceN U (x 10) (okN 320 len) (cellF 0 headO len c) := by
                                    have h := kU.fam.rows 10 (by omega)
                                    rw [M10.out 10 (by omega), N10.out.1, N10.out.2.2.1] at h
                                    exact own_slice h (fun j _ => cellF_lt headO_lt CB.out j)
                                  have s14 : SliceN U (x 14) (openN c len) fun j => c (2 + j) := by
                                    have h := kU.fam.rows 14 (by omega)
                                    rw [M10.out 14 (by omega), N10.out.2.1, N10.out.2.2.2] at h
                                    exact own_slice h (fun j hj => CB.out _ (openN_lt c len hj).2)
                                  match j, hj with
                                  | 0, _ => exact stepV rfl rfl (execMvB rfl (hf 33 (by decide))) ⟨_, rfl, rfl, Below.refl _ _⟩
                                  | 1, _ => exact stepV rfl rfl (execStr rfl (hdep _ rfl 0 rfl) (S1.out.on hB)) ⟨_, rfl, rfl, Below.refl _ _⟩
                                  | 2, _ => exact stepV rfl rfl (execMvB rfl (hf 9 (by decide))) ⟨_, rfl, rfl, Below.refl _ _⟩
                                  | 3, _ => exact stepV rfl rfl (execIdxL (k := 0) rfl (hdep _ rfl 2 rfl) rfl (by omega)) ⟨_, rfl, rfl, Below.refl _ _⟩
                                  | 4, _ => exact stepV rfl rfl (execLdL rfl (hdep _ rfl 3 rfl) (ownL_at kU.wo (j := 0) (by omega))) ⟨_, rfl, rfl, Below.refl _ _⟩
                                  | 5, _ => exact stepV rfl rfl (execStr rfl (hdep _ rfl 4 rfl) s10) ⟨_, rfl, rfl, Below.refl _ _⟩
                                  | 6, _ => exact stepV rfl rfl (execEqlS rfl (hdep _ rfl 1 rfl) (hdep _ rfl 5 rfl)) ⟨_, rfl, rfl, Below.refl _ _⟩
                                  | 7, _ => exact stepV rfl rfl (execMvB rfl (hdep _ rfl 6 rfl)) ⟨_, rfl, rfl, Below.refl _ _⟩
                                  | 8, _ => exact stepV rfl (wantedOf rfl (yieldedAt rfl rfl (show a.eval (.tmp 247) = .bool true from hdep _ rfl 7 rfl))) (execMvB rfl (hf 35 (by decide))) ⟨_, rfl, rfl, Below.refl _ _⟩
                                  | 9, _ => exact stepV rfl (wantedOf rfl (yieldedAt rfl rfl (show a.eval (.tmp 247) = .bool true from hdep _ rfl 7 rfl))) (execStr rfl (hdep _ rfl 8 rfl) (S2.out.on hB)) ⟨_, rfl, rfl, Below.refl _ _⟩
                                  | 10, _ => exact stepV rfl (wantedOf rfl (yieldedAt rfl rfl (show a.eval (.tmp 247) = .bool true from hdep _ rfl 7 rfl))) (execMvB rfl (hf 9 (by decide))) ⟨_, rfl, rfl, Below.refl _ _⟩
                                  | 11, _ => exact stepV rfl (wantedOf rfl (yieldedAt rfl rfl (show a.eval (.tmp 247) = .bool true from hdep _ rfl 7 rfl))) (execIdxL (k := 4) rfl (hdep _ rfl 10 rfl) rfl (by omega)) ⟨_, rfl, rfl, Below.refl _ _⟩
                                  | 12, _ => exact stepV rfl (wantedOf rfl (yieldedAt rfl rfl (show a.eval (.tmp 247) = .bool true from hdep _ rfl 7 rfl))) (execLdL rfl (hdep _ rfl 11 rfl) (ownL_at kU.wo (j := 4) (by omega))) ⟨_, rfl, rfl, Below.refl _ _⟩
                                  | 13, _ => exact stepV rfl (wantedOf rfl (yieldedAt rfl rfl (show a.eval (.tmp 247) = .bool true from hdep _ rfl 7 rfl))) (execStr rfl (hdep _ rfl 12 rfl) s14) ⟨_, rfl, rfl, Below.refl _ _⟩
                                  | 14, _ => exact stepV rfl (wantedOf rfl (yieldedAt rfl rfl (show a.eval (.tmp 247) = .bool true from hdep _ rfl 7 rfl))) (execEqlS rfl (hdep _ rfl 9 rfl) (hdep _ rfl 13 rfl)) ⟨_, rfl, rfl, Below.refl _ _⟩
                                  | 15, _ => exact stepV rfl rfl (execPick rfl (show a.eval (.tmp 247) = .bool true from hdep _ rfl 7 rfl) (hdep _ rfl 14 rfl)) ⟨_, rfl, rfl, Below.refl _ _⟩
                                  | 16, _ => exact stepV rfl rfl (execAsgC rfl (hdep _ rfl 15 rfl)) ⟨_, rfl, rfl, Below.refl _ _⟩
                                  | n + 17, h => exact absurd h (by omega)
                                · intro y2 U hB hS
                                  have y16 : y2 16 = .bool true := hS 16 (by omega)
                                  have kU := K8.out.on hB
                                  simp only [putL, List.drop_succ_cons, List.drop_zero, Act.put, List.setIfInBounds_toArray, List.set_cons_succ, List.set_cons_zero, y16]
                                  clear hS y16
                                  go_wp2
                                  go_ret
                                  exact ⟨rfl, B0.out.trans (kU.ro.bel.mono B0.out.size)⟩
end Go.Proofs.Ytmmdaiknggjmmaa.Cel
