import Derived.Test.YtijibdapooalcabL9d
namespace Go.Proofs.Ytijibdapooalcab.Win
open Go.RowKit Gf8 Aes By8 Cel Cf
/- WindowKeeps: what lies while the law's apart goes on. -/

/-- A tag is stored into a row of one's own. -/
theorem stepStT {ops : Array Oper} {Q : Exit → Act → World → Prop} {K : Act → World → Prop} {j : Nat} {o : Oper} {a : Act} {W : World} {x y : Operand} {B n g c k : Nat} {f : Nat → Nat} {t : Nat → Nat → Nat} (hos : ops[j]? = some o) (hgd : Region.wanted o (yielded ops a.tmps) = true)
    (ho : o.op = .store 36 x y) (hx : a.eval x = .pointer (some ⟨g, 0 + k * 16, none⟩)) (hy : a.eval y = .agg (bA 16 f)) (hown : W.ownsRow B 36 16 (.slice (some ⟨g, 0, none⟩) n c) n (tgV t n)) (hk : k < n)
    (hK : ∀ W', W'.ownsRow B 36 16 (.slice (some ⟨g, 0, none⟩) n c) n (tgV (up t k f) n) → W.grownBy W' (some g) → K (a.put o.dst undef) W') : wpOp Try.prog ops Q j K a W := by
  have ho2 := hown.2
  rcases ho2 with ⟨e, _⟩ | ⟨g', cap, cur, e, hB, hg, h1, h2, h3, h4⟩
  · cases e
  · obtain ⟨rfl, rfl⟩ := slc_inj e
    have hcs : n * 16 ≤ cur.size := by rw [h3]; exact Nat.mul_le_mul_right _ h1
    have hsz : (bA 16 f).size = 16 := bA_size 16 f
    have hst := execStMid (P := Try.prog) (w := W) ho hx hy hg (by rw [hsz]; omega) (by obtain ⟨i, i1, _, i3, _⟩ := info16; rw [i1, hsz]; exact congrArg some i3) (bA_one 16 f)
    rw [Nat.zero_add, hsz] at hst
    refine stepS hos hgd hst (hK _ ⟨by rw [tgV_len], Or.inr ⟨g, c, _, rfl, hB, setRow_heap _ _ _ _ _ _ hg, h1, h2, ?_, ?_⟩⟩ ⟨rfl, rfl, rfl, by simp [World.setRow], fun i _ hne => setRow_other _ _ _ _ (fun z => hne (by rw [z]))⟩)
    · simp [hsz]
      omega
    · apply List.ext_getElem?
      intro r
      by_cases hr : r < n * 16
      · obtain ⟨q, i, hi, rfl⟩ : ∃ q i, i < 16 ∧ r = q * 16 + i := ⟨r / 16, r % 16, by omega, by omega⟩
        rw [List.getElem?_take_of_lt hr, tgV_at _ n q i (by omega) hi]
        have h5 := tgV_at t n q i (by omega) hi
        rw [← h4, List.getElem?_take_of_lt hr] at h5
        have hlen : (cur.toList.take (k * 16)).length = k * 16 := by rw [List.length_take, Array.length_toList]; omega
        show (cur.toList.take (k * 16) ++ (bA 16 f).toList ++ cur.toList.drop (k * 16 + 16))[q * 16 + i]? = _
        rw [List.append_assoc]
        by_cases q1 : q < k
        · rw [List.getElem?_append_left (by omega), List.getElem?_take_of_lt (by omega), up_ne _ _ (by omega)]
          exact h5
        · rw [List.getElem?_append_right (by omega), hlen]
          by_cases q2 : q = k
          · subst q2
            rw [show q * 16 + i - q * 16 = i by omega, up_at, List.getElem?_append_left (by rw [Array.length_toList, hsz]; exact hi), Array.getElem?_toList]
            exact bA_at 16 f hi
          · rw [List.getElem?_append_right (by rw [Array.length_toList, hsz]; omega), Array.length_toList, hsz, List.getElem?_drop, show k * 16 + 16 + (q * 16 + i - k * 16 - 16) = q * 16 + i by omega, up_ne _ _ q2]
            exact h5
      · rw [List.getElem?_eq_none (by rw [List.length_take]; omega), List.getElem?_eq_none (by rw [tgV_len]; omega)]
/-- A number is stored into a row of epochs. -/
theorem own_num {W : World} {B n g c k : Nat} {z : Int} {nu : Nat → Int} {tw : Nat → Value} (h : W.ownsRow B 47 2 (.slice (some ⟨g, 0, none⟩) n c) n (epV nu tw n)) (hk : k < n) : (W.setCell ⟨g, 0 + k * 2 + 0, none⟩ (.int .i64 z)).ownsRow B 47 2 (.slice (some ⟨g, 0, none⟩) n c) n (epV (up nu k z) tw n) := by
  rcases h.2 with ⟨e, _⟩ | ⟨g', cap, cur, e, hB, hg, h1, h2, h3, h4⟩
  · cases e
  · obtain ⟨rfl, rfl⟩ := slc_inj e
    have hcs : n * 2 ≤ cur.size := by rw [h3]; exact Nat.mul_le_mul_right _ h1
    refine ⟨by rw [epV_len], Or.inr ⟨g, c, _, rfl, hB, heap4 _ hg, h1, h2, by rw [Array.size_setIfInBounds]; exact h3, ?_⟩⟩
    apply List.ext_getElem?
    intro r
    by_cases hr : r < n * 2
    · obtain ⟨q, i, hi, rfl⟩ : ∃ q i, i < 2 ∧ r = q * 2 + i := ⟨r / 2, r % 2, by omega, by omega⟩
      have h5 := epV_at nu tw n q (by omega)
      have h6 := epV_at (up nu k z) tw n q (by omega)
      rw [← h4, List.getElem?_take_of_lt (by omega), List.getElem?_take_of_lt (by omega)] at h5
      rw [List.getElem?_take_of_lt hr, Array.getElem?_toList, Array.getElem?_setIfInBounds]
      rw [Array.getElem?_toList, Array.getElem?_toList] at h5
      rcases (show i = 0 ∨ i = 1 by omega) with rfl | rfl
      · rw [h6.1]
        by_cases q1 : q = k
        · subst q1
          rw [if_pos (by omega), if_pos (by omega), up_at]
        · rw [if_neg (by omega), up_ne _ _ q1]
          exact h5.1
      · rw [h6.2, if_neg (by omega)]
        exact h5.2
    · rw [List.getElem?_eq_none (by rw [List.length_take]; omega), List.getElem?_eq_none (by rw [epV_len]; omega)]
/-- The windows that are handed to apart. -/
structure ApD where
  V : World
  B : Nat
  gw : Nat
  cw : Array Value
  e : Nat → Value
  n : Nat → Nat
  nu : Nat → Nat → Int
  tw : Nat → Nat → Value
  ln : Nat → Nat → Nat
  tt : Nat → Nat → Nat → Nat → Nat
structure ApH (D : ApD) : Prop where
  hB : D.B ≤ D.V.heap.size
  hw : D.V.heap[D.gw]? = some (.cells D.cw 24)
  he : ∀ k, k < 4 → D.cw[k * 2 + 1]? = some (D.e k)
  rowE : ∀ k, k < 4 → D.V.ownsRow D.B 47 2 (D.e k) (D.n k) (epV (D.nu k) (D.tw k) (D.n k))
  rowT : ∀ k, k < 4 → ∀ j, j < D.n k → D.V.ownsRow D.B 36 16 (D.tw k j) (D.ln k j) (tgV (D.tt k j) (D.ln k j))
  disE : ∀ k l, k < 4 → l < 4 → k ≠ l → ∀ b, (D.e k).ownBlock = some b → (D.e l).ownBlock ≠ some b
  disT : ∀ k l, k < 4 → l < 4 → ∀ i j, i < D.n k → j < D.n l → (k, i) ≠ (l, j) → ∀ b, (D.tw k i).ownBlock = some b → (D.tw l j).ownBlock ≠ some b
  n60 : ∀ k, k < 4 → D.n k ≤ 60
  l6 : ∀ k, k < 4 → ∀ j, j < D.n k → D.ln k j ≤ 1000000
/-- The blocks of the windows' lists. -/
def GD (D : ApD) (b : Nat) : Prop := (∃ k, k < 4 ∧ (D.e k).ownBlock = some b) ∨ ∃ k j, k < 4 ∧ j < D.n k ∧ (D.tw k j).ownBlock = some b
/-- No block but these has changed. -/
def Sv (D : ApD) (W : World) : Prop := ∀ b, b < D.V.heap.size → ¬ GD D b → W.heap[b]? = D.V.heap[b]?
theorem Sv.on {D : ApD} {W W' : World} (h : Sv D W) (hs : D.V.heap.size ≤ W.heap.size) (hb : Below W.heap.size W W') : Sv D W' := fun b hlt hG => by
  rw [hb.block b (by omega)]
  exact h b hlt hG
theorem Sv.grown {D : ApD} {W W' : World} {r : Option Nat} (h : Sv D W) (hs : D.V.heap.size ≤ W.heap.size) (gr : W.grownBy W' r) (hr : ∀ b, r = some b → D.V.heap.size ≤ b ∨ GD D b) : Sv D W' := fun b hlt hG => by
  rw [gr.block b (by omega) (fun e => (hr b e.symm).elim (by omega) hG)]
  exact h b hlt hG
/-- The first part: lists are gathered, numbers marked. -/
structure P1 (D : ApD) (i jl jn L : Nat) (pr : Nat → Nat × Nat) (lv : Value) (W : World) : Prop where
  fe : Fr 47 2 D.B 4 D.e D.n (fun k => epV (fun l => if k < i ∨ (k = i ∧ l < jn) then -100 - (k : Int) else D.nu k l) (D.tw k) (D.n k)) W
  ft : ∀ k, k < 4 → ∀ j, j < D.n k → W.ownsRow D.B 36 16 (D.tw k j) (D.ln k j) (tgV (D.tt k j) (D.ln k j))
  ws : W.heap[D.gw]? = some (.cells D.cw 24)
  li : W.ownsRow D.V.heap.size 25 1 lv L (vL (fun t => D.tw (pr t).1 (pr t).2) L)
  src : ∀ t, t < L → ((pr t).1 < i ∨ ((pr t).1 = i ∧ (pr t).2 < jl)) ∧ (pr t).1 < 4 ∧ (pr t).2 < D.n (pr t).1
  inj : ∀ s t, s < L → t < L → s ≠ t → pr s ≠ pr t
  bd : L ≤ i * 60 + jl
  bel : Below D.B D.V W
  sv : Sv D W
section
variable {D : ApD} {i jl jn L : Nat} {pr : Nat → Nat × Nat} {lv : Value} {W W' : World}
theorem P1.on (h : P1 D i jl jn L pr lv W) (hH : ApH D) (hb : Below W.heap.size W W') : P1 D i jl jn L pr lv W' :=
  ⟨h.fe.on hb, fun k hk j hj => ownE_below (h.ft k hk j hj) hb, by rw [hb.block _ (Array.getElem?_eq_some_iff.1 h.ws).1]; exact h.ws, ownE_below h.li hb, h.src, h.inj, h.bd, h.bel.trans (hb.mono (Nat.le_trans hH.hB h.bel.size)), h.sv.on h.bel.size hb⟩
theorem P1.begin (hH : ApH D) : P1 D 0 0 0 0 (fun _ => (0, 0)) (.slice none 0 0) D.V :=
  ⟨⟨fun k hk => by have := hH.rowE k hk; rw [epV_cg (nu2 := fun l => if k < 0 ∨ (k = 0 ∧ l < 0) then -100 - (k : Int) else D.nu k l) (tw2 := D.tw k) (D.n k) (fun j _ => by rw [if_neg (by omega)]) (fun _ _ => rfl)] at this; exact this, hH.disE⟩, hH.rowT, hH.hw, ⟨rfl, Or.inl ⟨rfl, rfl⟩⟩, fun t h => absurd h (Nat.not_lt_zero t), fun s _ h => absurd h (Nat.not_lt_zero s), Nat.zero_le _, Below.refl _ _, fun _ _ _ => rfl⟩
theorem P1.push (h : P1 D i jl jn L pr lv W) (hH : ApH D) (hi : i < 4) (hj : jl < D.n i) {lv' : Value} (own : W'.ownsRow D.V.heap.size 25 1 lv' (L + 1) (vL (fun t => D.tw (pr t).1 (pr t).2) L ++ [D.tw i jl])) (gr : W.grownBy W' lv.ownBlock) : P1 D i (jl + 1) jn (L + 1) (up pr L (i, jl)) lv' W' := by
  refine ⟨h.fe.over h.li gr (by decide), fun k hk j hj => ownE_over (h.ft k hk j hj) h.li gr (by decide), heapE_over h.li gr h.ws (by decide), ?_, fun t ht => ?_, fun s t hs ht hst e => ?_, by have := h.bd; omega, h.bel.grown gr (Nat.le_trans hH.hB h.bel.size) (fun k hk => Nat.le_trans hH.hB (h.li.lt k hk).1), h.sv.grown h.bel.size gr (fun b hb => Or.inl (h.li.lt b hb).1)⟩
  · rw [vL_up] at own
    rw [vL_cg (y := up (fun t => D.tw (pr t).1 (pr t).2) L (D.tw i jl)) (fun t ht => ?_)]
    · exact own
    · by_cases e : t = L
      · subst e
        rw [up_at, up_at]
      · rw [up_ne _ _ e, up_ne _ _ e]
  · by_cases e : t = L
    · subst e
      rw [up_at]
      exact ⟨Or.inr ⟨rfl, Nat.lt_succ_self _⟩, hi, hj⟩
    · rw [up_ne _ _ e]
      obtain ⟨q1, q2⟩ := h.src t (by omega)
      exact ⟨by omega, q2⟩
  · have nl : ∀ t, t < L → pr t ≠ (i, jl) := fun t ht q => by
      have := (h.src t ht).1
      rw [q] at this
      simp only at this
      omega
    by_cases es : s = L
    · subst es
      rw [up_at, up_ne _ _ (fun w => hst w.symm)] at e
      exact nl t (by omega) e.symm
    · rw [up_ne _ _ es] at e
      by_cases et : t = L
      · subst et
        rw [up_at] at e
        exact nl s (by omega) e
      · rw [up_ne _ _ et] at e
        exact h.inj s t (by omega) (by omega) hst e
theorem P1.mark (h : P1 D i jl jn L pr lv W) (hH : ApH D) (hi : i < 4) {g c : Nat} (he : D.e i = .slice (some ⟨g, 0, none⟩) (D.n i) c) (hj : jn < D.n i) : P1 D i jl (jn + 1) L pr lv (W.setCell ⟨g, 0 + jn * 2 + 0, none⟩ (.int .i64 (-100 - (i : Int)))) := by
  have row := h.fe.rows i hi
  rw [he] at row
  obtain ⟨cur, hg⟩ : ∃ cur, W.heap[g]? = some (.cells cur 47) := by
    rcases row.2 with ⟨e, _⟩ | ⟨g', cap, cur, e, hB, hg, _⟩
    · cases e
    · obtain ⟨rfl, rfl⟩ := slc_inj e
      exact ⟨cur, hg⟩
  have hb : (D.e i).ownBlock = some g := by rw [he]; rfl
  have own := own_num (z := -100 - (i : Int)) row hj
  rw [← he] at own
  refine ⟨(h.fe.put hi hb own grown_cell).cg fun k hk => ?_, fun k hk j hj => ownG_T (h.ft k hk j hj) hg (by decide) grown_cell, heapG h.ws hg (by decide) grown_cell, ownG_T h.li hg (by decide) grown_cell, h.src, h.inj, h.bd, h.bel.grown grown_cell (Nat.le_trans hH.hB h.bel.size) (fun k hk => by obtain rfl := Option.some.inj hk; exact (row.lt g rfl).1), h.sv.grown h.bel.size grown_cell (fun b hb2 => Or.inr (Or.inl ⟨i, hi, hb.trans hb2⟩))⟩
  by_cases e : k = i
  · subst e
    rw [up_at]
    refine epV_cg _ (fun l _ => ?_) (fun _ _ => rfl)
    by_cases q : l = jn
    · subst q
      rw [up_at, if_pos (by omega)]
    · rw [up_ne _ _ q]
      by_cases q2 : l < jn
      · rw [if_pos (by omega), if_pos (by omega)]
      · rw [if_neg (by omega), if_neg (by omega)]
  · rw [up_ne _ _ e]
    refine epV_cg _ (fun l _ => ?_) (fun _ _ => rfl)
    by_cases q2 : k < i
    · rw [if_pos (by omega), if_pos (by omega)]
    · rw [if_neg (by omega), if_neg (by omega)]
theorem P1.next (h : P1 D i (D.n i) (D.n i) L pr lv W) (hH : ApH D) (hi : i < 4) : P1 D (i + 1) 0 0 L pr lv W := by
  refine ⟨h.fe.cg fun k hk => epV_cg _ (fun l hl => ?_) (fun _ _ => rfl), h.ft, h.ws, h.li, fun t ht => ?_, h.inj, by have := h.bd; have := hH.n60 i hi; omega, h.bel, h.sv⟩
  · by_cases q : k < i
    · rw [if_pos (by omega), if_pos (by omega)]
    · by_cases q2 : k = i
      · subst q2
        rw [if_pos (by omega), if_pos (by omega)]
      · rw [if_neg (by omega), if_neg (by omega)]
  · obtain ⟨q1, q2⟩ := h.src t ht
    exact ⟨by omega, q2⟩
end
end Go.Proofs.Ytijibdapooalcab.Win
