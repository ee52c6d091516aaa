import Derived.Test.YtejhbfbnljioeaaGreatDoorU8b
import Derived.Test.YtejhbfbnljioeaaGreatDoorJ9i
import Derived.Test.YtejhbfbnljioeaaGreatDoorJ9e
import Derived.Test.YtejhbfbnljioeaaGreatDoorL9c
import Derived.Test.YtejhbfbnljioeaaGreatDoorB7v
namespace Go.Proofs.YtejhbfbnljioeaaGreatDoor.Rnd
open Go.RowKit Gf8 Aes By8 Cel Cf Win Oni Rou
/- Sift over lists: what becomes of each cell; lists of Peeled that grow; exec lemmas. -/

/-- A cell ahead (below k) peels and has i's tag. -/
def dup (E : Nat → Nat) (T : Nat → Nat → Nat) (i : Nat) : Nat → Bool
  | 0 => false
  | k + 1 => dup E T i k || decide (E k = 0 ∧ tv (T k) 16 = tv (T i) 16)
/-- What becomes of cell i: 0 malformed, 1 a replay, 2 fresh. -/
def ft (E : Nat → Nat) (T : Nat → Nat → Nat) (A : List Nat) (i : Nat) : Nat := if E i ≠ 0 then 0 else if (decide (tv (T i) 16 ∈ A) || dup E T i i) = true then 1 else 2
/-- How many of the first k have the fate c. -/
def cn (F : Nat → Nat) (c : Nat) : Nat → Nat
  | 0 => 0
  | k + 1 => cn F c k + if F k = c then 1 else 0
/-- The place of the m-th fresh one among n. -/
def fr (F : Nat → Nat) (n m : Nat) : Nat := ((List.range n).filter fun i => decide (F i = 2)).getD m 0
def z0 (E x : Nat) : Nat := if E = 0 then x else 0
section
variable {E F : Nat → Nat} {T : Nat → Nat → Nat} {A : List Nat} {i k n c : Nat}
theorem dup_iff : dup E T i k = true ↔ ∃ j, j < k ∧ E j = 0 ∧ tv (T j) 16 = tv (T i) 16 := by
  induction k with
  | zero => exact ⟨fun h => absurd (show false = true from h) (by decide), fun ⟨j, hj, _⟩ => absurd hj (Nat.not_lt_zero j)⟩
  | succ k ih =>
    rw [dup, Bool.or_eq_true, ih, decide_eq_true_eq]
    constructor
    · rintro (⟨j, hj, h⟩ | h)
      · exact ⟨j, by omega, h⟩
      · exact ⟨k, by omega, h⟩
    · rintro ⟨j, hj, h⟩
      by_cases e : j = k
      · subst e; exact Or.inr h
      · exact Or.inl ⟨j, by omega, h⟩
theorem ft_0 (h : E i ≠ 0) : ft E T A i = 0 := if_pos h
theorem ft_1 (h : E i = 0) (h2 : tv (T i) 16 ∈ A ∨ dup E T i i = true) : ft E T A i = 1 := by
  unfold ft
  rw [if_neg (fun z => z h), if_pos (by rw [Bool.or_eq_true, decide_eq_true_eq]; exact h2)]
theorem ft_2 (h : E i = 0) (h2 : ¬ (tv (T i) 16 ∈ A ∨ dup E T i i = true)) : ft E T A i = 2 := by
  unfold ft
  rw [if_neg (fun z => z h), if_neg (by rw [Bool.or_eq_true, decide_eq_true_eq]; exact h2)]
theorem ft_le : ft E T A i = 0 ∨ ft E T A i = 1 ∨ ft E T A i = 2 := by
  unfold ft
  split
  · exact Or.inl rfl
  · split
    · exact Or.inr (Or.inl rfl)
    · exact Or.inr (Or.inr rfl)
theorem ft_E (h : ft E T A i ≠ 0) : E i = 0 := Classical.byContradiction fun z => h (ft_0 z)
/-- The tags of the fresh ones are, with the window's, all the tags so far. -/
theorem seen (k : Nat) : (∃ j, j < k ∧ E j = 0 ∧ tv (T j) 16 = c) → c ∈ A ∨ ∃ j, j < k ∧ ft E T A j = 2 ∧ tv (T j) 16 = c := by
  rintro ⟨j, hj, h0, hc⟩
  induction j using Nat.strongRecOn with
  | ind j ih =>
    by_cases h : tv (T j) 16 ∈ A ∨ dup E T j j = true
    · rcases h with h | h
      · exact Or.inl (hc ▸ h)
      · obtain ⟨l, hl, e0, et⟩ := dup_iff.1 h
        exact ih l hl (by omega) e0 (et.trans hc)
    · exact Or.inr ⟨j, hj, ft_2 h0 h, hc⟩
theorem seen_iff (h0 : E k = 0) : (tv (T k) 16 ∈ A ∨ ∃ j, j < k ∧ ft E T A j = 2 ∧ tv (T j) 16 = tv (T k) 16) ↔ ft E T A k = 1 := by
  constructor
  · rintro (h | ⟨j, hj, hf, ht⟩)
    · exact ft_1 h0 (Or.inl h)
    · exact ft_1 h0 (Or.inr (dup_iff.2 ⟨j, hj, ft_E (by rw [hf]; decide), ht⟩))
  · intro h
    by_cases q : tv (T k) 16 ∈ A ∨ dup E T k k = true
    · rcases q with q | q
      · exact Or.inl q
      · exact seen k (dup_iff.1 q)
    · rw [ft_2 h0 q] at h
      exact absurd h (by decide)
theorem cn_le (k : Nat) : cn F c k ≤ k := by
  induction k with
  | zero => exact Nat.le_refl _
  | succ k ih => rw [cn]; split <;> omega
theorem cn_y (h : F k = c) : cn F c (k + 1) = cn F c k + 1 := by rw [cn, if_pos h]
theorem cn_n (h : F k ≠ c) : cn F c (k + 1) = cn F c k := by rw [cn, if_neg h]; rfl
theorem fr_len : ∀ n, ((List.range n).filter fun i => decide (F i = 2)).length = cn F 2 n
  | 0 => rfl
  | n + 1 => by
    rw [List.range_succ, List.filter_append, List.length_append, fr_len n, cn]
    by_cases h : F n = 2
    · simp [h]
    · simp [h]
theorem cn_mono (h : k ≤ n) : cn F c k ≤ cn F c n := by
  induction n with
  | zero => rw [Nat.le_zero.1 h]; exact Nat.le_refl _
  | succ n ih =>
    by_cases e : k = n + 1
    · rw [e]; exact Nat.le_refl _
    · rw [cn]
      exact Nat.le_trans (ih (by omega)) (Nat.le_add_right _ _)
theorem fr_at (hk : k < n) (h : F k = 2) : fr F n (cn F 2 k) = k := by
  unfold fr
  induction n with
  | zero => omega
  | succ n ih =>
    rw [List.range_succ, List.filter_append]
    by_cases e : k = n
    · subst e
      rw [List.getD_eq_getElem?_getD, List.getElem?_append_right (by rw [fr_len]; exact Nat.le_refl _), fr_len, Nat.sub_self]
      simp [h]
    · have hl : cn F 2 k < cn F 2 n := by
        have := cn_mono (F := F) (c := 2) (show k + 1 ≤ n by omega)
        rw [cn_y h] at this
        omega
      rw [List.getD_eq_getElem?_getD, List.getElem?_append_left (by rw [fr_len]; exact hl), ← List.getD_eq_getElem?_getD]
      exact ih (by omega)
/-- The m-th fresh one is one. -/
theorem fr_is {m : Nat} (h : m < cn F 2 n) : fr F n m < n ∧ F (fr F n m) = 2 := by
  unfold fr
  rw [List.getD_eq_getElem?_getD, List.getElem?_eq_getElem (by rw [fr_len]; exact h)]
  have := List.getElem_mem (l := (List.range n).filter fun i => decide (F i = 2)) (n := m) (by rw [fr_len]; exact h)
  rw [List.mem_filter] at this
  exact ⟨List.mem_range.1 this.1, of_decide_eq_true this.2⟩
end
/-- A list of k Peeled in memory of its own, each cell a row of its own. -/
structure PeL (B : Nat) (W : World) (v : Value) (k : Nat) (cv : Nat → Value) (r : Nat → Nat → Nat) (l : Nat → Nat) (c : Nat → Nat → Nat) : Prop where
  own : W.ownsRow B 46 17 v k (yL (fun m => (pC (cv m) (r m)).toList) k)
  cel : ∀ m, m < k → W.ownsRow B 5 1 (cv m) (l m) (bytesL (l m) (c m))
def cvx (cv : Nat → Value) (k : Nat) (u : Value) : Nat → Value := fun m => if m = k then u else cv m
section
variable {B k g : Nat} {W X : World} {v : Value} {cv : Nat → Value} {r c : Nat → Nat → Nat} {l : Nat → Nat} {t : TypeId} {d : Array Value}
theorem own_blk {n s : Nat} {xs : List Value} (h : W.ownsRow B t s v n xs) {b : Nat} (e : v.ownBlock = some b) : B ≤ b ∧ ∃ cur, W.heap[b]? = some (.cells cur t) := by
  rcases h.2 with ⟨rfl, _⟩ | ⟨g, cap, cur, rfl, hB, hg, _⟩
  · cases e
  · cases e
    exact ⟨hB, cur, hg⟩
theorem PeL.on (h : PeL B W v k cv r l c) (hb : Below W.heap.size W X) : PeL B X v k cv r l c := ⟨ownW_below h.own hb, fun m hm => ownW_below (h.cel m hm) hb⟩
theorem PeL.base {A : Nat} (h : PeL B W v k cv r l c) (hA : A ≤ B) : PeL A W v k cv r l c := ⟨ownW_base h.own hA, fun m hm => ownW_base (h.cel m hm) hA⟩
theorem PeL.lt (h : PeL B W v k cv r l c) {b : Nat} (e : v.ownBlock = some b) : B ≤ b ∧ b < W.heap.size := by
  obtain ⟨h1, cur, h2⟩ := own_blk h.own e
  exact ⟨h1, (Array.getElem?_eq_some_iff.1 h2).1⟩
theorem PeL.gr (h : PeL B W v k cv r l c) (gr : W.grownBy X (some g)) (h5 : ∀ d, W.heap[g]? ≠ some (.cells d 5)) (hP : v.ownBlock ≠ some g) : PeL B X v k cv r l c :=
  ⟨ownG h.own gr fun b hb e => hP (hb.trans e.symm), fun m hm => ownG (h.cel m hm) gr fun b hb e => by
    obtain ⟨_, cur, q⟩ := own_blk (h.cel m hm) hb
    cases e
    exact h5 cur q⟩
theorem PeL.grT (h : PeL B W v k cv r l c) (gr : W.grownBy X (some g)) (hg : W.heap[g]? = some (.cells d t)) (ht : t ≠ 5 ∧ t ≠ 46) : PeL B X v k cv r l c :=
  h.gr gr (fun d' q => by rw [hg] at q; cases q; exact ht.1 rfl) fun e => by
    obtain ⟨_, cur, q⟩ := own_blk h.own e
    rw [hg] at q
    cases q
    exact ht.2 rfl
theorem PeL.nil (W : World) (B : Nat) (cv : Nat → Value) (r : Nat → Nat → Nat) (l : Nat → Nat) (c : Nat → Nat → Nat) : PeL B W (.slice none 0 0) 0 cv r l c := ⟨⟨rfl, Or.inl ⟨rfl, rfl⟩⟩, fun m hm => absurd hm (Nat.not_lt_zero m)⟩
theorem PeL.shp (h : PeL B W v k cv r l c) : ∃ ao cap, v = .slice ao k cap := by
  rcases h.own.2 with ⟨rfl, rfl⟩ | ⟨g, cap, cur, rfl, _⟩
  · exact ⟨_, _, rfl⟩
  · exact ⟨_, _, rfl⟩
theorem pC_0 (u : Value) (r : Nat → Nat) : (pC u r)[0]? = some u := rfl
theorem pC_r (u : Value) (r : Nat → Nat) {j : Nat} (hj : j < 16) : (pC u r)[1 + j]? = some (.int .u8 ((r j : Nat) : Int)) := by
  unfold pC bytesL
  rw [List.getElem?_toArray, Nat.add_comm, List.getElem?_cons_succ]
  simp [hj]
theorem PeL.at (h : PeL B W v k cv r l c) (hk : 0 < k) : ∃ b cap, v = .slice (some ⟨b, 0, none⟩) k cap ∧ B ≤ b ∧ b < W.heap.size ∧ ∀ i, i < k → ∀ j, j < 17 → W.cell? ⟨b, i * 17 + j, none⟩ = (pC (cv i) (r i))[j]? := by
  rcases h.own.2 with ⟨rfl, rfl⟩ | ⟨g, cap, cur, rfl, hB, hg, q1, q2, q3, q4⟩
  · omega
  · refine ⟨g, cap, rfl, hB, (Array.getElem?_eq_some_iff.1 hg).1, fun i hi j hj => ?_⟩
    rw [cell_of_row _ _ _ _ _ _ hg, ← Array.getElem?_toList]
    have q5 := yL_get (P := fun m => (pC (cv m) (r m)).toList) (fun m => pC_len _ _) k i j hi hj
    rw [← q4, List.getElem?_take_of_lt (by omega)] at q5
    rw [q5, Array.getElem?_toList]
theorem PeL.next {v' u : Value} (h : PeL B W v k cv r l c) (hc : W.ownsRow B 5 1 u (l k) (bytesL (l k) (c k))) (ho : X.ownsRow B 46 17 v' (k + 1) (yL (fun m => (pC (cv m) (r m)).toList) k ++ (pC u (r k)).toList)) (gr : W.grownBy X v.ownBlock) : PeL B X v' (k + 1) (cvx cv k u) r l c := by
  refine ⟨?_, fun m hm => ?_⟩
  · have e : yL (fun m => (pC (cvx cv k u m) (r m)).toList) (k + 1) = yL (fun m => (pC (cv m) (r m)).toList) k ++ (pC u (r k)).toList := by
      show yL _ k ++ (pC (cvx cv k u k) (r k)).toList = _
      rw [yL_congr k (fun i hi => by show (pC (cvx cv k u i) (r i)).toList = (pC (cv i) (r i)).toList; unfold cvx; rw [if_neg (by omega)]), show cvx cv k u k = u from if_pos rfl]
    rw [e]
    exact ho
  · by_cases e : m = k
    · subst e
      rw [show cvx cv m u m = u from if_pos rfl]
      exact own5_grown hc h.own (by decide) gr
    · rw [show cvx cv k u m = cv m from if_neg e]
      exact own5_grown (h.cel m (by omega)) h.own (by decide) gr
end
set_option maxRecDepth 100000 in
theorem stepAppP {ops : Array Oper} {Q : Exit → Act → World → Prop} {K : Act → World → Prop} {j : Nat} {o : Oper} {a : Act} {W : World} {s x : Operand} {B k g : Nat} {v u : Value} {cv : Nat → Value} {r c : Nat → Nat → Nat} {l : Nat → Nat} (hos : ops[j]? = some o) (hgd : Region.wanted o (yielded ops a.tmps) = true)
    (ho : o.op = .call { callee := .builtin .append, args := #[s, x], argTypes := #[35, 35] }) (hs : a.eval s = v) (hx : a.eval x = .slice (some ⟨g, 0, none⟩) 1 1) (hL : PeL B W v k cv r l c) (hsrc : W.heap[g]? = some (.cells (pC u (r k)) 46)) (hu : W.ownsRow B 5 1 u (l k) (bytesL (l k) (c k))) (hn : k ≤ 1000000) (hB : B ≤ W.heap.size)
    (hK : ∀ v' W', PeL B W' v' (k + 1) (cvx cv k u) r l c → W.grownBy W' v.ownBlock → K (a.put o.dst v') W') : wpOp Tryz.prog ops Q j K a W := by
  obtain ⟨i, h1, h2, h3, h4⟩ := infoP
  have hone : u.oneCell' = true := by rcases hu.2 with ⟨rfl, _⟩ | ⟨_, _, _, rfl, _⟩ <;> rfl
  obtain ⟨v', W', run, q1, q2⟩ := Cf.execAppO (W := W) (m := 1) (c := 1) (news := (pC u (r k)).toList) ho Tryz.underlying35 h1 h2 h3 h4 (by simp [Value.cells, pC_size]) (by decide) hs hL.own hx (by rw [pC_len]) (fun j y hy => by
    rw [Go.WideShapes.add_plain, cell_of_row _ _ _ _ _ _ hsrc, Nat.zero_add]
    simpa using hy) (fun y hy => by
    have := pC_one (r k) hone
    rw [Array.all_eq_true_iff_forall_mem] at this
    exact this y (by simpa using hy)) (by unfold maxLen; omega) (by omega) hB
  exact stepV hos hgd run (hK v' W' (hL.next hu q1 q2) q2)
/-- A report's cells, a batch's. -/
def rpC (a b c : Nat) : Array Value := #[.int .i64 ((a : Nat) : Int), .int .i64 ((b : Nat) : Int), .int .i64 ((c : Nat) : Int), .int .i64 0, .int .i64 0]
def btC (ro ep le : Int) (cv : Value) : Array Value := #[.int .i64 ro, .int .i64 ep, .int .i64 le, cv]
section
variable {o : Oper} {a : Act} {w : World}
theorem execBxB {x : Operand} {ro ep le : Int} {cv : Value} (hm : ∃ g n c, cv = .slice g n c) (ho : o.op = .box 32 x) (hx : a.eval x = .agg (btC ro ep le cv)) : (execOp a.eval o).run Tryz.prog w = .ok (.value (.pointer (some ⟨w.heap.size, 0, none⟩))) (w.alloc (.cells (btC ro ep le cv) 32)) := by
  obtain ⟨g, n, c, rfl⟩ := hm
  unfold execOp
  simp only [ho, hx]
  simp [go_sem, btC]
theorem execFB0 {x : Operand} {b : Nat} (ho : o.op = .fieldAddr 32 x 0) (hx : a.eval x = .pointer (some ⟨b, 0, none⟩)) : (execOp a.eval o).run Tryz.prog w = .ok (.value (.pointer (some ⟨b, 0, none⟩))) w := by
  unfold execOp
  simp only [ho, hx]
  simp [go_sem]
theorem execFB1 {x : Operand} {b : Nat} (ho : o.op = .fieldAddr 32 x 1) (hx : a.eval x = .pointer (some ⟨b, 0, none⟩)) : (execOp a.eval o).run Tryz.prog w = .ok (.value (.pointer (some ⟨b, 3, none⟩))) w := by
  unfold execOp
  simp only [ho, hx]
  simp [go_sem]
theorem execFH1 {x : Operand} {b : Nat} (ho : o.op = .fieldAddr 29 x 1) (hx : a.eval x = .pointer (some ⟨b, 0, none⟩)) : (execOp a.eval o).run Tryz.prog w = .ok (.value (.pointer (some ⟨b, 1, none⟩))) w := by
  unfold execOp
  simp only [ho, hx]
  simp [go_sem]
theorem execFR {x : Operand} {b k : Nat} (hk : k = 0 ∨ k = 1 ∨ k = 2) (ho : o.op = .fieldAddr 37 x k) (hx : a.eval x = .pointer (some ⟨b, 0, none⟩)) : (execOp a.eval o).run Tryz.prog w = .ok (.value (.pointer (some ⟨b, k, none⟩))) w := by
  unfold execOp
  rcases hk with rfl | rfl | rfl <;> (simp only [ho, hx]; simp [go_sem])
theorem execLL {x : Operand} {b k : Nat} {v : Value} (ho : o.op = .load 30 x) (hx : a.eval x = .pointer (some ⟨b, k, none⟩)) (hc : w.cell? ⟨b, k, none⟩ = some v) : (execOp a.eval o).run Tryz.prog w = .ok (.value v) w := by
  unfold execOp
  simp only [ho, hx]
  simp [go_sem, hc]
theorem execAlR (ho : o.op = .alloc 37) : (execOp a.eval o).run Tryz.prog w = .ok (.value (.pointer (some ⟨w.heap.size, 0, none⟩))) (w.alloc (.cells (rpC 0 0 0) 37)) := by
  unfold execOp
  simp only [ho]
  simp [go_sem, rpC]
theorem execBdR0 (ho : o.op = .build 37 #[]) : (execOp a.eval o).run Tryz.prog w = .ok (.value (.agg (rpC 0 0 0))) w := by
  unfold execOp
  simp only [ho, List.map_toArray, List.map_nil]
  kernel_rfl
theorem execBdR1 {x : Operand} {n : Nat} (ho : o.op = .build 37 #[(0, x)]) (hx : a.eval x = .int .i64 ((n : Nat) : Int)) : (execOp a.eval o).run Tryz.prog w = .ok (.value (.agg (rpC n 0 0))) w := by
  unfold execOp
  simp only [ho, List.map_toArray, List.map_cons, List.map_nil, hx]
  simp [go_sem, rpC]
theorem execStRp {x y : Operand} {g a1 b1 c1 a2 b2 c2 : Nat} (ho : o.op = .store 37 x y) (hx : a.eval x = .pointer (some ⟨g, 0, none⟩)) (hy : a.eval y = .agg (rpC a2 b2 c2)) (hg : w.heap[g]? = some (.cells (rpC a1 b1 c1) 37)) : (execOp a.eval o).run Tryz.prog w = .ok .skip (w.setRow g (rpC a2 b2 c2)) := by
  have h := Aes.execStMid (P := Tryz.prog) ho hx hy hg (Nat.le_refl _) (show (Tryz.prog.info? 37).map (·.size) = some (rpC a2 b2 c2).size from by show _ = some 5; kernel_rfl) (by simp [rpC, Value.oneCell'])
  exact h
theorem execLdRp {x : Operand} {g a1 b1 c1 : Nat} (ho : o.op = .load 37 x) (hx : a.eval x = .pointer (some ⟨g, 0, none⟩)) (h : w.heap[g]? = some (.cells (rpC a1 b1 c1) 37)) : (execOp a.eval o).run Tryz.prog w = .ok (.value (.agg (rpC a1 b1 c1))) w := by
  have h := Aes.execLoadMid (P := Tryz.prog) (cs := [.int .i64 ((a1 : Nat) : Int), .int .i64 ((b1 : Nat) : Int), .int .i64 ((c1 : Nat) : Int), .int .i64 0, .int .i64 0]) ho hx (fun j z hv => by
    rw [cell_of_row _ _ _ _ _ _ h]
    match j, hv with
    | 0, hv => exact hv
    | 1, hv => exact hv
    | 2, hv => exact hv
    | 3, hv => exact hv
    | 4, hv => exact hv
    | _ + 5, hv => simp at hv) Tryz.underlying37 rfl (by kernel_rfl)
  exact h
/-- One number of a report more. -/
theorem execStR1 {x y : Operand} {g k z : Nat} {d : Array Value} (ho : o.op = .store 3 x y) (hx : a.eval x = .pointer (some ⟨g, k, none⟩)) (hy : a.eval y = .int .i64 ((z : Nat) : Int)) (hg : w.heap[g]? = some (.cells d 37)) (hk : k < d.size) : (execOp a.eval o).run Tryz.prog w = .ok .skip (w.setRow g (d.setIfInBounds k (.int .i64 ((z : Nat) : Int)))) := by
  have hc : w.cell? ⟨g, k, none⟩ = some d[k] := by rw [cell_of_row _ _ _ _ _ _ hg, Array.getElem?_eq_getElem hk]
  have hf : w.frozen? ⟨g, k, none⟩ = false := frozen4 hg
  rw [← setCell_eq_setRow w g k d 37 _ _ hg]
  unfold execOp
  simp only [ho, hx, hy]
  simp [go_sem, hc, hf]
theorem execAlPe (ho : o.op = .alloc 46) : (execOp a.eval o).run Tryz.prog w = .ok (.value (.pointer (some ⟨w.heap.size, 0, none⟩))) (w.alloc (.cells (pC (.slice none 0 0) fun _ => 0) 46)) := by
  have h := zeroP
  unfold execOp
  simp only [ho]
  simp [go_sem, h]
theorem execStPe {x y : Operand} {g : Nat} {u u2 : Value} {r r2 : Nat → Nat} (ho : o.op = .store 46 x y) (hx : a.eval x = .pointer (some ⟨g, 0, none⟩)) (hy : a.eval y = .agg (pC u2 r2)) (hg : w.heap[g]? = some (.cells (pC u r) 46)) (hu : u2.oneCell' = true) : (execOp a.eval o).run Tryz.prog w = .ok .skip (w.setRow g (pC u2 r2)) := by
  have h := Aes.execStMid (P := Tryz.prog) ho hx hy hg (by rw [pC_size, pC_size]; omega) (sizeP u2 r2) (pC_one r2 hu)
  rw [h, List.take_zero, List.nil_append, List.drop_eq_nil_of_le (by rw [Array.length_toList, pC_size, pC_size]; omega), List.append_nil]
theorem execFP {x : Operand} {b f : Nat} (ho : o.op = .fieldAddr 46 x 1) (hx : a.eval x = .pointer (some ⟨b, f, none⟩)) : (execOp a.eval o).run Tryz.prog w = .ok (.value (.pointer (some ⟨b, f + 1, none⟩))) w := by
  unfold execOp
  simp only [ho, hx]
  simp [go_sem]
theorem execLdPe {x : Operand} {b f : Nat} {u : Value} {r : Nat → Nat} (ho : o.op = .load 46 x) (hx : a.eval x = .pointer (some ⟨b, f, none⟩)) (h : ∀ j, j < 17 → w.cell? ⟨b, f + j, none⟩ = (pC u r)[j]?) : (execOp a.eval o).run Tryz.prog w = .ok (.value (.agg (pC u r))) w := by
  have q := Aes.execLoadMid (P := Tryz.prog) (cs := (pC u r).toList) ho hx (fun j z hv => by
    have hj : j < 17 := by rw [← pC_len u r]; exact (List.getElem?_eq_some_iff.1 hv).1
    rw [h j hj, ← Array.getElem?_toList]
    exact hv) Tryz.underlying46 rfl (by rw [pC_len]; kernel_rfl)
  exact q
theorem execIxPe {x i : Operand} {b n cap k : Nat} (ho : o.op = .indexAddr 35 x i) (hx : a.eval x = .slice (some ⟨b, 0, none⟩) n cap) (hi : a.eval i = .int .i64 ((k : Nat) : Int)) (hk : k < n) : (execOp a.eval o).run Tryz.prog w = .ok (.value (.pointer (some ⟨b, k * 17, none⟩))) w := by
  exact execIdxP ho hx hi hk
theorem execLnPe {x : Operand} {v : Value} {len : Nat} (ho : o.op = .call { callee := .builtin .len, args := #[x], argTypes := #[35] }) (hx : a.eval x = v) (hv : ∃ ao c, v = .slice ao len c) : (execOp a.eval o).run Tryz.prog w = .ok (.value (.int .i64 ((len : Nat) : Int))) w := by
  obtain ⟨ao, c, rfl⟩ := hv
  unfold execOp
  simp only [ho, resolve, invoke, builtin, Sem.run_bind, Sem.run_pure, Result.andThen_ok, List.map_toArray, List.map_cons, List.map_nil, hx]
  simp [go_sem]
theorem execLnCl {x : Operand} {v : Value} {len : Nat} (ho : o.op = .call { callee := .builtin .len, args := #[x], argTypes := #[30] }) (hx : a.eval x = v) (hv : ∃ ao c, v = .slice ao len c) : (execOp a.eval o).run Tryz.prog w = .ok (.value (.int .i64 ((len : Nat) : Int))) w := by
  obtain ⟨ao, c, rfl⟩ := hv
  unfold execOp
  simp only [ho, resolve, invoke, builtin, Sem.run_bind, Sem.run_pure, Result.andThen_ok, List.map_toArray, List.map_cons, List.map_nil, hx]
  simp [go_sem]
end
theorem grown_row {W : World} {g : Nat} {d d' : Array Value} {t : TypeId} (_ : W.heap[g]? = some (.cells d t)) : W.grownBy (W.setRow g d') (some g) := by
  refine ⟨rfl, rfl, rfl, by simp [World.setRow], fun b hb hne => ?_⟩
  exact setRow_other _ _ _ _ (fun e => hne (by rw [e]))
end Go.Proofs.YtejhbfbnljioeaaGreatDoor.Rnd
