import Derived.Test.YtmllfmnpcidkbaaT8b
import Derived.Test.YtmllfmnpcidkbaaE8t
import Derived.Test.YtmllfmnpcidkbaaN9a
import Derived.Test.YtmllfmnpcidkbaaN8k
namespace Go.Proofs.Ytmllfmnpcidkbaa.Loo
open Go.RowKit Gf8 Aes By8 Cel Cf Win Drw Prm
/- The reference's Chosen; the log's played. Written by tools/mkT8c.py. -/

/-- Functions that answer as the shams do. -/
structure ShS (S : Sys Lg) (D : Sd) : Prop where
  n : S.n = D.n
  ra : ∀ x t, S.ra x t = rdA D x t
  sa : ∀ x t, S.sa x t = stA D x t
  rf : ∀ t, t < D.n → (S.rf t).isNone = D.nr t
  e0 : ∀ t, t < D.n → S.en0 t = decide (D.la t = 0)
section
variable {S : Sys Lg} {D : Sd} {en : Nat → Bool} {x : Lg} {t : Nat}
theorem ask_e (h : en t = true) : S.ask en (t + 1) x = S.ask en t x := by
  show (if en t = true then _ else _) = _
  rw [if_pos h]
theorem ask_n (H : ShS S D) (ht : t < D.n) (h : en t = false) (hn : D.nr t = true) : S.ask en (t + 1) x = ((S.ask en t x).1 ++ [t], (S.ask en t x).2) := by
  have hr := H.rf t ht
  rw [hn, Option.isNone_iff_eq_none] at hr
  show (if en t = true then _ else match S.rf t with | none => _ | some _ => _) = _
  rw [if_neg (by rw [h]; decide), hr]
theorem ask_s (H : ShS S D) (ht : t < D.n) (h : en t = false) (hn : D.nr t = false) : S.ask en (t + 1) x = if (rdA D (S.ask en t x).2 t).1 = true then ((S.ask en t x).1 ++ [t], (rdA D (S.ask en t x).2 t).2) else ((S.ask en t x).1, (rdA D (S.ask en t x).2 t).2) := by
  have hr := H.rf t ht
  rw [hn] at hr
  show (if en t = true then _ else match S.rf t with | none => _ | some _ => if (S.ra (S.ask en t x).2 t).1 = true then _ else _) = _
  rw [if_neg (by rw [h]; decide)]
  cases hs : S.rf t with
  | none => rw [hs] at hr; cases hr
  | some q => simp only [H.ra]
theorem ask_bnd (H : ShS S D) : ∀ t, t ≤ D.n → (S.ask en t x).2.ca.length ≤ x.ca.length + t ∧ (∀ s, t ≤ s → (S.ask en t x).2.ak s = x.ak s) ∧ (∀ s, (S.ask en t x).2.ak s ≤ x.ak s + 1) ∧ (S.ask en t x).2.dn = x.dn ∧ (S.ask en t x).1.length ≤ t ∧ ∀ s ∈ (S.ask en t x).1, s < t
  | 0, _ => ⟨Nat.le_refl _, fun _ _ => rfl, fun _ => Nat.le_succ _, rfl, Nat.le_refl _, fun s h => by cases h⟩
  | t + 1, ht => by
    obtain ⟨a1, a2, a3, a4, a5, a6⟩ := ask_bnd H t (by omega)
    have key : ∀ y : Lg, (y = (S.ask en t x).2 ∨ y = (rdA D (S.ask en t x).2 t).2) → y.ca.length ≤ x.ca.length + (t + 1) ∧ (∀ s, t + 1 ≤ s → y.ak s = x.ak s) ∧ (∀ s, y.ak s ≤ x.ak s + 1) ∧ y.dn = x.dn := by
      rintro y (rfl | rfl)
      · exact ⟨by omega, fun s h => a2 s (by omega), a3, a4⟩
      · refine ⟨?_, fun s h => ?_, fun s => ?_, a4⟩
        · show ((S.ask en t x).2.ca ++ [2 * t]).length ≤ _
          simp; omega
        · show upf (S.ask en t x).2.ak t _ s = _
          rw [upf_ne _ _ (by omega)]
          exact a2 s (by omega)
        · show upf (S.ask en t x).2.ak t _ s ≤ _
          by_cases e : s = t
          · rw [e, upf_at, a2 t (Nat.le_refl _)]
            exact Nat.le_refl _
          · rw [upf_ne _ _ e]; exact a3 s
    have keyl : ∀ l : List Nat, (l = (S.ask en t x).1 ∨ l = (S.ask en t x).1 ++ [t]) → l.length ≤ t + 1 ∧ ∀ s ∈ l, s < t + 1 := by
      rintro l (rfl | rfl)
      · exact ⟨by omega, fun s h => Nat.lt_succ_of_lt (a6 s h)⟩
      · refine ⟨by simp; exact a5, fun s h => ?_⟩
        rcases List.mem_append.1 h with w | w
        · exact Nat.lt_succ_of_lt (a6 s w)
        · simp at w; omega
    have fin : ∀ z : List Nat × Lg, S.ask en (t + 1) x = z → (z.2 = (S.ask en t x).2 ∨ z.2 = (rdA D (S.ask en t x).2 t).2) → (z.1 = (S.ask en t x).1 ∨ z.1 = (S.ask en t x).1 ++ [t]) → _ := fun z e h1 h2 => by
      obtain ⟨b1, b2, b3, b4⟩ := key _ h1
      obtain ⟨b5, b6⟩ := keyl _ h2
      exact (show (S.ask en (t + 1) x).2.ca.length ≤ x.ca.length + (t + 1) ∧ (∀ s, t + 1 ≤ s → (S.ask en (t + 1) x).2.ak s = x.ak s) ∧ (∀ s, (S.ask en (t + 1) x).2.ak s ≤ x.ak s + 1) ∧ (S.ask en (t + 1) x).2.dn = x.dn ∧ (S.ask en (t + 1) x).1.length ≤ t + 1 ∧ ∀ s ∈ (S.ask en (t + 1) x).1, s < t + 1 by rw [e]; exact ⟨b1, b2, b3, b4, b5, b6⟩)
    cases he : en t with
    | true => exact fin _ (ask_e he) (Or.inl rfl) (Or.inl rfl)
    | false =>
      cases hn : D.nr t with
      | true => exact fin _ (ask_n H (by omega) he hn) (Or.inl rfl) (Or.inr rfl)
      | false =>
        have h := ask_s (x := x) H (by omega) he hn
        by_cases hr : (rdA D (S.ask en t x).2 t).1 = true
        · rw [if_pos hr] at h; exact fin _ h (Or.inr rfl) (Or.inr rfl)
        · rw [if_neg hr] at h; exact fin _ h (Or.inr rfl) (Or.inl rfl)
theorem go_end {sc : Nat → Int} {mo : Nat} {pl ml : List Nat} {y : Lg} (ha : S.ask en S.n x = (ml, y)) (h : ml = [] ∨ mo ≤ pl.length) : S.go sc (mo - pl.length) pl.length en x pl = (pl, en, y, ml) := by
  cases hm : mo - pl.length with
  | zero =>
    show (pl, en, (S.ask en S.n x).2, (S.ask en S.n x).1) = _
    rw [ha]
  | succ m =>
    have e : ml = [] := h.elim id (fun w => by omega)
    unfold Sys.go
    rw [ha]
    simp only [if_pos e]
    rw [e]
theorem go_on {sc : Nat → Int} {mo : Nat} {pl ml : List Nat} {y : Lg} (ha : S.ask en S.n x = (ml, y)) (h : ml ≠ []) (hm : pl.length < mo) (hsa : ∀ x t, S.sa x t = stA D x t) : S.go sc (mo - pl.length) pl.length en x pl = S.go sc (mo - (pl ++ [ml.getD (chn (sc pl.length) ml.length) 0]).length) (pl ++ [ml.getD (chn (sc pl.length) ml.length) 0]).length (upf en (ml.getD (chn (sc pl.length) ml.length) 0) (stA D y (ml.getD (chn (sc pl.length) ml.length) 0)).1) (stA D y (ml.getD (chn (sc pl.length) ml.length) 0)).2 (pl ++ [ml.getD (chn (sc pl.length) ml.length) 0]) := by
  obtain ⟨m, hm2⟩ : ∃ m, mo - pl.length = m + 1 := ⟨mo - pl.length - 1, by omega⟩
  rw [hm2]
  conv => lhs; unfold Sys.go
  rw [ha]
  simp only [if_neg h, hsa, List.length_append, List.length_singleton]
  rw [show mo - (pl.length + 1) = m by omega]
end
def alvT (en : Nat → Bool) (t : Nat) : Bool := (List.range t).any fun s => !en s
theorem alvT_succ (en : Nat → Bool) (t : Nat) : alvT en (t + 1) = (alvT en t || !en t) := by
  unfold alvT
  rw [List.range_succ, List.any_append]
  simp
/-- What lies beside the log. -/
structure OffP (F3 F : Nat → Prop) (V : World) (g8 g9 eb : Nat) (pk : Value) : Prop where
  o8 : ¬ F3 g8
  o9 : ¬ F3 g9
  oe : ¬ F3 eb
  op : ∀ b, pk.ownBlock = some b → ¬ F3 b
  sub : ∀ q, F3 q → F q ∨ V.heap.size ≤ q
theorem OffP.next {F3 F4 F : Nat → Prop} {V X : World} {g8 g9 eb : Nat} {pk : Value} (h : OffP F3 F V g8 g9 eb pk) (hf : ∀ q, F4 q → F3 q ∨ X.heap.size ≤ q) (l8 : g8 < X.heap.size) (l9 : g9 < X.heap.size) (le : eb < X.heap.size) (lp : ∀ b, pk.ownBlock = some b → b < X.heap.size) (hs : V.heap.size ≤ X.heap.size) : OffP F4 F V g8 g9 eb pk :=
  ⟨fun w => (hf _ w).elim h.o8 (fun w => by omega), fun w => (hf _ w).elim h.o9 (fun w => by omega), fun w => (hf _ w).elim h.oe (fun w => by omega), fun b hb w => (hf _ w).elim (h.op b hb) (fun w => by have := lp b hb; omega), fun q w => (hf q w).elim (h.sub q) (fun w => Or.inr (Nat.le_trans hs w))⟩
theorem own_sv19 {F : Nat → Prop} {X Y : World} {B t s n : Nat} {v : Value} {xs : List Value} (h : X.ownsRow B t s v n xs) (hs : Saved F X Y) (hn : ∀ g, v.ownBlock = some g → ¬ F g) : Y.ownsRow B t s v n xs := own_keep h fun b hb => hs.block b (h.lt b hb).2 (hn b hb)
theorem bk_sv19 {F : Nat → Prop} {X Y : World} {g : Nat} {c : Obj} (h : X.heap[g]? = some c) (hs : Saved F X Y) (hn : ¬ F g) : Y.heap[g]? = some c := (hs.block g (Array.getElem?_eq_some_iff.1 h).1 hn).trans h
theorem lg_gr {B : Nat} {W X : World} {F : Nat → Prop} {g n : Nat} {x : Lg} {row : Option Nat} (h : LgR B W F g n x) (gr : W.grownBy X row) (hn : ∀ b, row = some b → ¬ F b) : LgR B X F g n x := h.keep fun b hb => gr.block b (h.lt b hb) (fun e => hn b e.symm hb)
theorem npk_of {W : World} {g : Nat} {pk tk : Value} {m l n : Nat} {en st : Bool} {t : TypeId} (h : W.heap[g]? = some (.cells (hC pk m en st l tk) t)) (hp : ∃ a c, pk = .slice a n c) : npk W g = n := by
  obtain ⟨a, c, rfl⟩ := hp
  unfold npk
  rw [(hC_at h).1]
theorem exit_past19 {id jd : Nat} {Q : Exit → Act → World → Prop} {a : Act} {w : World} (hne : jd ≠ id) (h : Q (.exit jd) a w) : Exit.inBlock id Q (.exit jd) a w := by
  simp only [Exit.inBlock, if_neg hne]
  exact h
theorem hC_s0 {W : World} {g : Nat} {pk tk u : Value} {m l : Nat} {en st : Bool} {t : TypeId} (h : W.heap[g]? = some (.cells (hC pk m en st l tk) t)) : (W.setCell ⟨g, 0, none⟩ u).heap[g]? = some (.cells (hC u m en st l tk) t) := heap4 _ h
theorem hC_s2 {W : World} {g : Nat} {pk tk : Value} {m l : Nat} {en st b : Bool} {t : TypeId} (h : W.heap[g]? = some (.cells (hC pk m en st l tk) t)) : (W.setCell ⟨g, 2, none⟩ (.bool b)).heap[g]? = some (.cells (hC pk m b st l tk) t) := heap4 _ h
theorem hC_s3 {W : World} {g : Nat} {pk tk : Value} {m l : Nat} {en st b : Bool} {t : TypeId} (h : W.heap[g]? = some (.cells (hC pk m en st l tk) t)) : (W.setCell ⟨g, 3, none⟩ (.bool b)).heap[g]? = some (.cells (hC pk m en b l tk) t) := heap4 _ h
set_option maxRecDepth 100000 in
set_option maxHeartbeats 4000000 in
/-- Chosen. -/
theorem rchosen_g (cv : Value) (m : Nat) (sc : Nat → Int) (k mm : Nat) (V : World) (hS : SliceI V cv m sc) (hk : ¬ k < m) :
    Calls Try.prog 23 #[cv, .int .i64 ((k : Nat) : Int), .int .i64 ((mm : Nat) : Int)] V fun e w' => e = .returned (.int .i64 ((chn (scr m sc k) mm : Nat) : Int)) ∧ Below V.heap.size V w' := by
  go_enter Try.func23, Try.ntmps23
  refine wo_ 24 [(0, cv), (1, .int .i64 ((k : Nat) : Int)), (2, .int .i64 ((mm : Nat) : Int))] ?_
  rintro a A ⟨t0, t1, t2, -⟩
  have BB : Below V.heap.size V V := Below.refl _ _
  refine wp_seq ?_
  refine wi_ A (h3_ t0 t1 t2) (rf_ [] (h3_ t0 t1 t2) ?_)
  rintro a A - ⟨t0, t1, t2, -⟩
  refine wp_seq ?_
  refine wp_seq ?_
  refine wi_ A (h3_ t0 t1 t2) (rv_ 2 (.int .i64 ((m : Nat) : Int)) (fun a ee => execLenI (len := m) rfl (ee _) hS.shp) (rv_ 3 (.bool true) (fun a ee => execDec (exIgeq3 (p := ((k : Nat) : Int)) (q := ((m : Nat) : Int)) rfl (ee _) (ee _)) (decide_eq_true (by omega))) (rf_ [(11, .bool true)] (h3_ t0 t1 t2) ?_)))
  rintro a A ⟨t11, -⟩ ⟨t0, t1, t2, -⟩
  refine wp_cond_true t11 ?_
  clear t11
  refine wp_seq ?_
  refine wi_ A (h3_ t0 t1 t2) (rg_ [(6, .int .i64 ((0 : Nat) : Int))] ?_)
  rintro a A ⟨t6, -⟩
  refine wp_ret ?_
  repeat (first | with_reducible refine ret_in ?_ | with_reducible refine ret_then ?_)
  refine bodyPost_ret (results_tmp rfl _ _ _) A.2 ⟨?_, BB⟩
  show Ending.returned (a.eval (.tmp 6)) = _
  rw [t6]
  rw [show scr m sc k = 0 from if_neg (by omega), chn_zero]
set_option maxRecDepth 100000 in
set_option maxHeartbeats 4000000 in
/-- Chosen. -/
theorem rchosen_p (cv : Value) (m : Nat) (sc : Nat → Int) (k mm : Nat) (V : World) (hS : SliceI V cv m sc) (hm : 0 < mm) (hm2 : mm ≤ 1000000) (hk : k < m) (hz : ¬ Int.tmod (sc k) ((mm : Nat) : Int) < 0) :
    Calls Try.prog 23 #[cv, .int .i64 ((k : Nat) : Int), .int .i64 ((mm : Nat) : Int)] V fun e w' => e = .returned (.int .i64 ((chn (scr m sc k) mm : Nat) : Int)) ∧ Below V.heap.size V w' := by
  obtain ⟨pa, pc, es_, -, -, hs_⟩ := hS.shape
  obtain ⟨pb, po, epa, hpb, hpc⟩ := hs_ (by omega)
  have ep_ : cv = .slice (some ⟨pb, po, none⟩) m pc := by rw [es_, epa]
  have cP : ∀ X, Below V.heap.size V X → X.cell? ⟨pb, po + k, none⟩ = some (.int .i64 (sc k)) := fun X hX => by rw [cell_below hX hpb]; exact hpc k (by omega)
  obtain ⟨m1, m2, m3⟩ := tmod_in (n := sc k) (m := ((mm : Nat) : Int)) (by omega)
  have hzz : (Int.tmod (sc k) ((mm : Nat) : Int)) = ((chn (scr m sc k) mm : Nat) : Int) := by
    rw [show scr m sc k = sc k from if_pos (by omega)]
    unfold chn
    rw [m3, if_neg hz]
    omega
  go_enter Try.func23, Try.ntmps23
  refine wo_ 24 [(0, cv), (1, .int .i64 ((k : Nat) : Int)), (2, .int .i64 ((mm : Nat) : Int))] ?_
  rintro a A ⟨t0, t1, t2, -⟩
  have BB : Below V.heap.size V V := Below.refl _ _
  refine wp_seq ?_
  refine wi_ A (h3_ t0 t1 t2) (rf_ [] (h3_ t0 t1 t2) ?_)
  rintro a A - ⟨t0, t1, t2, -⟩
  refine wp_seq ?_
  refine wp_seq ?_
  refine wi_ A (h3_ t0 t1 t2) (rv_ 2 (.int .i64 ((m : Nat) : Int)) (fun a ee => execLenI (len := m) rfl (ee _) hS.shp) (rv_ 3 (.bool false) (fun a ee => execDec (exIgeq3 (p := ((k : Nat) : Int)) (q := ((m : Nat) : Int)) rfl (ee _) (ee _)) (decide_eq_false (by omega))) (rf_ [(11, .bool false)] (h3_ t0 t1 t2) ?_)))
  rintro a A ⟨t11, -⟩ ⟨t0, t1, t2, -⟩
  refine wp_cond_false t11 ?_
  refine wp_skip ?_
  clear t11
  refine wp_seq ?_
  refine wi_ A (h3_ t0 t1 t2) (rv_ 2 (.pointer (some ⟨pb, po + k, none⟩)) (fun a ee => execIdxN (k := k) rfl ((ee _).trans ep_) (ee _) (show k < m by omega)) (rv_ 3 (.int .i64 (sc k)) (fun a ee => execLm rfl (Or.inl rfl) (ee _) (cP V BB)) (rv_ 5 (.int .i64 (Int.tmod (sc k) ((mm : Nat) : Int))) (fun a ee => exRemZ (p := sc k) (q := ((mm : Nat) : Int)) rfl (ee _) (ee _) (by omega)) (rf_ [(7, .int .i64 (Int.tmod (sc k) ((mm : Nat) : Int)))] (h1_ t2) ?_))))
  rintro a A ⟨t7, -⟩ ⟨t2, -⟩
  refine wp_seq ?_
  refine wp_seq ?_
  refine wi_ A (h2_ t2 t7) (rv_ 1 (.bool false) (fun a ee => execDec (exIlss3 (p := (Int.tmod (sc k) ((mm : Nat) : Int))) (q := 0) rfl (ee _) rfl) (decide_eq_false hz)) (rf_ [(19, .bool false)] (h2_ t2 t7) ?_))
  rintro a A ⟨t19, -⟩ ⟨t2, t7, -⟩
  refine wp_cond_false t19 ?_
  refine wp_skip ?_
  clear t19
  rw [hzz] at t7
  refine wp_seq ?_
  refine wi_ A (h2_ t2 t7) (rg_ [(6, .int .i64 ((chn (scr m sc k) mm : Nat) : Int))] ?_)
  rintro a A ⟨t6, -⟩
  refine wp_ret ?_
  refine bodyPost_ret (results_tmp rfl _ _ _) A.2 ⟨?_, BB⟩
  show Ending.returned (a.eval (.tmp 6)) = _
  rw [t6]
set_option maxRecDepth 100000 in
set_option maxHeartbeats 4000000 in
/-- Chosen. -/
theorem rchosen_n (cv : Value) (m : Nat) (sc : Nat → Int) (k mm : Nat) (V : World) (hS : SliceI V cv m sc) (hm : 0 < mm) (hm2 : mm ≤ 1000000) (hk : k < m) (hz : Int.tmod (sc k) ((mm : Nat) : Int) < 0) :
    Calls Try.prog 23 #[cv, .int .i64 ((k : Nat) : Int), .int .i64 ((mm : Nat) : Int)] V fun e w' => e = .returned (.int .i64 ((chn (scr m sc k) mm : Nat) : Int)) ∧ Below V.heap.size V w' := by
  obtain ⟨pa, pc, es_, -, -, hs_⟩ := hS.shape
  obtain ⟨pb, po, epa, hpb, hpc⟩ := hs_ (by omega)
  have ep_ : cv = .slice (some ⟨pb, po, none⟩) m pc := by rw [es_, epa]
  have cP : ∀ X, Below V.heap.size V X → X.cell? ⟨pb, po + k, none⟩ = some (.int .i64 (sc k)) := fun X hX => by rw [cell_below hX hpb]; exact hpc k (by omega)
  obtain ⟨m1, m2, m3⟩ := tmod_in (n := sc k) (m := ((mm : Nat) : Int)) (by omega)
  have hzz : (Int.tmod (sc k) ((mm : Nat) : Int)) + ((mm : Nat) : Int) = ((chn (scr m sc k) mm : Nat) : Int) := by
    rw [show scr m sc k = sc k from if_pos (by omega)]
    unfold chn
    rw [m3, if_pos hz]
    omega
  go_enter Try.func23, Try.ntmps23
  refine wo_ 24 [(0, cv), (1, .int .i64 ((k : Nat) : Int)), (2, .int .i64 ((mm : Nat) : Int))] ?_
  rintro a A ⟨t0, t1, t2, -⟩
  have BB : Below V.heap.size V V := Below.refl _ _
  refine wp_seq ?_
  refine wi_ A (h3_ t0 t1 t2) (rf_ [] (h3_ t0 t1 t2) ?_)
  rintro a A - ⟨t0, t1, t2, -⟩
  refine wp_seq ?_
  refine wp_seq ?_
  refine wi_ A (h3_ t0 t1 t2) (rv_ 2 (.int .i64 ((m : Nat) : Int)) (fun a ee => execLenI (len := m) rfl (ee _) hS.shp) (rv_ 3 (.bool false) (fun a ee => execDec (exIgeq3 (p := ((k : Nat) : Int)) (q := ((m : Nat) : Int)) rfl (ee _) (ee _)) (decide_eq_false (by omega))) (rf_ [(11, .bool false)] (h3_ t0 t1 t2) ?_)))
  rintro a A ⟨t11, -⟩ ⟨t0, t1, t2, -⟩
  refine wp_cond_false t11 ?_
  refine wp_skip ?_
  clear t11
  refine wp_seq ?_
  refine wi_ A (h3_ t0 t1 t2) (rv_ 2 (.pointer (some ⟨pb, po + k, none⟩)) (fun a ee => execIdxN (k := k) rfl ((ee _).trans ep_) (ee _) (show k < m by omega)) (rv_ 3 (.int .i64 (sc k)) (fun a ee => execLm rfl (Or.inl rfl) (ee _) (cP V BB)) (rv_ 5 (.int .i64 (Int.tmod (sc k) ((mm : Nat) : Int))) (fun a ee => exRemZ (p := sc k) (q := ((mm : Nat) : Int)) rfl (ee _) (ee _) (by omega)) (rf_ [(7, .int .i64 (Int.tmod (sc k) ((mm : Nat) : Int)))] (h1_ t2) ?_))))
  rintro a A ⟨t7, -⟩ ⟨t2, -⟩
  refine wp_seq ?_
  refine wp_seq ?_
  refine wi_ A (h2_ t2 t7) (rv_ 1 (.bool true) (fun a ee => execDec (exIlss3 (p := (Int.tmod (sc k) ((mm : Nat) : Int))) (q := 0) rfl (ee _) rfl) (decide_eq_true hz)) (rf_ [(19, .bool true)] (h2_ t2 t7) ?_))
  rintro a A ⟨t19, -⟩ ⟨t2, t7, -⟩
  refine wp_cond_true t19 ?_
  clear t19
  refine wi_ A (h2_ t2 t7) (rv_ 2 (.int .i64 ((Int.tmod (sc k) ((mm : Nat) : Int)) + ((mm : Nat) : Int))) (fun a ee => exAddZ (p := (Int.tmod (sc k) ((mm : Nat) : Int))) (q := ((mm : Nat) : Int)) rfl (ee _) (ee _) ⟨by omega, by omega⟩) (rg_ [(7, .int .i64 ((Int.tmod (sc k) ((mm : Nat) : Int)) + ((mm : Nat) : Int)))] ?_))
  rintro a A ⟨t7, -⟩
  rw [hzz] at t7
  refine wp_seq ?_
  refine wi_ A (h1_ t7) (rg_ [(6, .int .i64 ((chn (scr m sc k) mm : Nat) : Int))] ?_)
  rintro a A ⟨t6, -⟩
  refine wp_ret ?_
  refine bodyPost_ret (results_tmp rfl _ _ _) A.2 ⟨?_, BB⟩
  show Ending.returned (a.eval (.tmp 6)) = _
  rw [t6]
theorem rchosen (cv : Value) (m : Nat) (sc : Nat → Int) (k mm : Nat) (V : World) (hS : SliceI V cv m sc) (hm : 0 < mm) (hm2 : mm ≤ 1000000) : Calls Try.prog 23 #[cv, .int .i64 ((k : Nat) : Int), .int .i64 ((mm : Nat) : Int)] V fun e w' => e = .returned (.int .i64 ((chn (scr m sc k) mm : Nat) : Int)) ∧ Below V.heap.size V w' := by
  by_cases hk : k < m
  · by_cases hz : Int.tmod (sc k) ((mm : Nat) : Int) < 0
    · exact rchosen_n cv m sc k mm V hS hm hm2 hk hz
    · exact rchosen_p cv m sc k mm V hS hm hm2 hk hz
  · exact rchosen_g cv m sc k mm V hS hk
end Go.Proofs.Ytmllfmnpcidkbaa.Loo
