import Derived.Test.YtealknodagdjaaaT0
import Derived.Test.YtealknodagdjaaaY6
namespace Go.Proofs.Ytealknodagdjaaa.By8
open Go.RowKit Gf8 Aes

/-- All but the blocks G is as it was. -/
structure Saved (G : Nat → Prop) (w w' : World) : Prop where
  os : w'.os = w.os
  tape : w'.tape = w.tape
  output : w'.output = w.output
  size : w.heap.size ≤ w'.heap.size
  block : ∀ k, k < w.heap.size → ¬ G k → w'.heap[k]? = w.heap[k]?
theorem Saved.refl (G : Nat → Prop) (w : World) : Saved G w w := ⟨rfl, rfl, rfl, Nat.le_refl _, fun _ _ _ => rfl⟩
theorem Saved.below {G : Nat → Prop} {w w' w'' : World} {B : Nat} (h : Saved G w w') (hb : Below B w' w'') (hB : w.heap.size ≤ B) : Saved G w w'' :=
  ⟨hb.os.trans h.os, hb.tape.trans h.tape, hb.output.trans h.output, Nat.le_trans h.size hb.size, fun k hk hG => by rw [hb.block k (by omega), h.block k hk hG]⟩
theorem Saved.cell {G : Nat → Prop} {w w' : World} (h : Saved G w w') {b o : Nat} (v : Value) (hG : w.heap.size ≤ b ∨ G b) : Saved G w (w'.setCell ⟨b, o, none⟩ v) := by
  have hb : Below b w' (w'.setCell ⟨b, o, none⟩ v) := (Below.refl _ _).setCell (p := ⟨b, o, none⟩) (Nat.le_refl _) v
  refine ⟨hb.os.trans h.os, hb.tape.trans h.tape, hb.output.trans h.output, Nat.le_trans h.size hb.size, fun k hk hk2 => ?_⟩
  rw [Below.heap_setCell _ _ _ _ (fun e => by subst e; rcases hG with h | h; omega; exact hk2 h), h.block k hk hk2]
theorem Saved.grown {G : Nat → Prop} {w w' w'' : World} {row : Option Nat} (h : Saved G w w') (hg : w'.grownBy w'' row) (hG : ∀ k, row = some k → w.heap.size ≤ k ∨ G k) : Saved G w w'' :=
  ⟨hg.os.trans h.os, hg.tape.trans h.tape, hg.output.trans h.output, Nat.le_trans h.size hg.size, fun k hk hk2 => by
    rw [hg.block k (Nat.lt_of_lt_of_le hk h.size) (fun e => by rcases hG k e.symm with h | h; omega; exact hk2 h), h.block k hk hk2]⟩
def r4 (x : Nat → Value) : Array Value := #[x 0, x 1, x 2, x 3]
theorem r4_at (x : Nat → Value) {t : Nat} (h : t < 4) : (r4 x)[t]? = some (x t) := by
  match t, h with
  | 0, _ => rfl
  | 1, _ => rfl
  | 2, _ => rfl
  | 3, _ => rfl
theorem r4_set (x : Nat → Value) (v : Value) {t : Nat} (h : t < 4) : (r4 x).setIfInBounds t v = r4 fun j => if j = t then v else x j := by
  match t, h with
  | 0, _ => rfl
  | 1, _ => rfl
  | 2, _ => rfl
  | 3, _ => rfl
theorem r4_congr {x y : Nat → Value} (h : ∀ t, t < 4 → x t = y t) : r4 x = r4 y := by
  unfold r4
  rw [h 0 (by omega), h 1 (by omega), h 2 (by omega), h 3 (by omega)]
theorem r4_cell {W : World} {b t : Nat} {x : Nat → Value} {ty : TypeId} (h : W.heap[b]? = some (.cells (r4 x) ty)) (ht : t < 4) : W.cell? ⟨b, t, none⟩ = some (x t) := by
  rw [cell_of_row _ _ _ _ _ _ h]; exact r4_at x ht
/-- The lists as they are marked: list t below k throughout, list k up to m. -/
def mkN (f : Nat → Nat → Nat) (k m t : Nat) : Nat → Nat := fun j => if t < k then t else if t = k ∧ j < m then t else f t j
theorem bytesL_congr {n : Nat} {f g : Nat → Nat} (h : ∀ j, j < n → f j = g j) : bytesL n f = bytesL n g := by
  unfold bytesL
  refine List.map_congr_left fun j hj => ?_
  rw [h j (List.mem_range.1 hj)]
theorem mkN_next (f : Nat → Nat → Nat) (k n t : Nat) : bytesL n (mkN f k n t) = bytesL n (mkN f (k + 1) 0 t) := bytesL_congr fun j hj => by
  unfold mkN
  by_cases h1 : t < k
  · rw [if_pos h1, if_pos (by omega)]
  · by_cases h2 : t = k
    · rw [if_neg h1, if_pos ⟨h2, hj⟩, if_pos (by omega)]
    · rw [if_neg h1, if_neg (fun h => h2 h.1), if_neg (by omega), if_neg (fun h => by omega)]
theorem mkN_step (f : Nat → Nat → Nat) (k m : Nat) : (fun j => if j = m then k else mkN f k m k j) = mkN f k (m + 1) k := by
  funext j
  unfold mkN
  simp only [Nat.lt_irrefl, if_false, true_and]
  split <;> split <;> first | rfl | omega | (split <;> first | rfl | omega)
theorem mkN_other (f : Nat → Nat → Nat) (k m t : Nat) (h : t ≠ k) : mkN f k (m + 1) t = mkN f k m t := by
  funext j
  simp [mkN, h]
theorem mkN_zero (f : Nat → Nat → Nat) (t : Nat) : mkN f 0 0 t = f t := by
  funext j
  simp [mkN]

theorem infoB : ∃ i, Try.prog.info? 25 = some i ∧ i.zero = some (.slice none 0 0) ∧ i.size = 1 ∧ i.bytes = 24 := by
  have h : (Try.prog.info? 25).map (fun i => (i.zero, i.size, i.bytes)) = some (some (.slice none 0 0), 1, 24) := by kernel_rfl
  cases hq : Try.prog.info? 25 with
  | none => rw [hq] at h; cases h
  | some i =>
    rw [hq] at h
    simp only [Option.map_some, Option.some.injEq, Prod.mk.injEq] at h
    exact ⟨i, rfl, h.1, h.2.1, h.2.2⟩
theorem run_mk4 (W : World) : (Instr.makeSlice 44 (.int .i64 4) (.int .i64 4)).run Try.prog W = .ok (.slice (some ⟨W.heap.size, 0, none⟩) 4 4) (W.alloc (.cells (r4 fun _ => .slice none 0 0) 25)) := by
  obtain ⟨i, h1, h2, h3, h4⟩ := infoB
  have h := run_make (P := Try.prog) W 44 25 i (.slice none 0 0) Try.underlying44 h1 h2 .i64 .i64 4 4 (by omega) (by omega) (by rw [h4]; omega) (by omega)
  have e : madeCells (Value.slice none 0 0).cells (Int.toNat 4 * 1) = r4 fun _ => .slice none 0 0 := by kernel_rfl
  rw [h3, e] at h
  exact h
/-- A row of one's own stays where a cell of another block is set. -/
theorem own_stays {W : World} {B n b k : Nat} {v u : Value} {xs : List Value} {c : Array Value} {ty : TypeId} (h : W.ownsRow B 5 1 v n xs) (hb : W.heap[b]? = some (.cells c ty)) (hv : v.ownBlock ≠ some b) : (W.setCell ⟨b, k, none⟩ u).ownsRow B 5 1 v n xs :=
  h.kept (row := some b) ⟨rfl, rfl, rfl, by simp, fun i _ hi => heap4o _ hb (fun e => hi (by rw [e]))⟩ (.inr hv)
theorem own_any {W : World} {B n : Nat} {v : Value} {xs : List Value} (h : W.ownsRow B 5 1 v n xs) : ∃ ao cap, v = .slice ao n cap := by
  rcases h.2 with ⟨rfl, rfl⟩ | ⟨g, cap, cur, rfl, _⟩
  · exact ⟨_, _, rfl⟩
  · exact ⟨_, _, rfl⟩
theorem own_shape0 {W : World} {B n cap m : Nat} {ao : Option Addr} {xs : List Value} (h : W.ownsRow B 5 1 (.slice ao n cap) n xs) (hm : m < n) : ∃ g, ao = some ⟨g, 0, none⟩ ∧ ∃ cur, W.heap[g]? = some (.cells cur 5) ∧ m < cur.size := by
  rcases h.2 with ⟨e, h0⟩ | ⟨g, c, cur, e, _, hg, hnc, _, hcs, _⟩
  · omega
  · injection e with e1 _ _
    exact ⟨g, e1, cur, hg, by omega⟩

def gF (ln : Nat → Nat) (t : Nat) : Nat → Nat := fun j => if j < ln t then t else 100 + t
theorem slice_grown {W W' : World} {v : Value} {n : Nat} {f : Nat → Nat} {row : Option Nat} (h : SliceN W v n f) (hg : W.grownBy W' row) (hv : ∀ k, v.ownBlock = some k → row ≠ some k) : SliceN W' v n f := by
  obtain ⟨⟨a, cap, e, h1, h2, h3⟩, hp⟩ := h
  refine ⟨⟨a, cap, e, h1, h2, fun h0 => ?_⟩, hp⟩
  obtain ⟨b, off, e1, e2, e3⟩ := h3 h0
  subst e e1
  exact ⟨b, off, rfl, Nat.lt_of_lt_of_le e2 hg.size, fun j hj => hg.cell (e3 j hj) (fun e => hv b rfl e.symm)⟩
theorem grown_set {W : World} {b k : Nat} {u : Value} {c : Array Value} {ty : TypeId} (hb : W.heap[b]? = some (.cells c ty)) : W.grownBy (W.setCell ⟨b, k, none⟩ u) (some b) :=
  ⟨rfl, rfl, rfl, by simp, fun i _ hi => heap4o _ hb (fun e => hi (by rw [e]))⟩
/-- What goes through the growing. -/
structure Gr (w W : World) (G : Nat → Prop) (bL bG : Nat) (vs gv : Nat → Value) (ln gl : Nat → Nat) : Prop where
  grown : W.heap[bG]? = some (.cells (r4 gv) 25)
  own : ∀ t, t < 4 → W.ownsRow 0 5 1 (gv t) (gl t) (bytesL (gl t) (gF ln t))
  sl : ∀ t, t < 4 → SliceN W (vs t) (ln t) (fun _ => t)
  far : ∀ t, t < 4 → ∀ k, (gv t).ownBlock = some k → k ≠ bL ∧ k ≠ bG ∧ (w.heap.size ≤ k ∨ G k) ∧ ∀ j, j < 4 → j ≠ t → (vs j).ownBlock ≠ some k ∧ (gv j).ownBlock ≠ some k
  save : Saved G w W
theorem Gr.keep {w W W' : World} {G : Nat → Prop} {bL bG : Nat} {vs gv : Nat → Value} {ln gl : Nat → Nat} (h : Gr w W G bL bG vs gv ln gl) (hg : W.grownBy W' none) : Gr w W' G bL bG vs gv ln gl :=
  ⟨by rw [hg.block _ (Array.getElem?_eq_some_iff.1 h.grown).1 (by simp)]; exact h.grown, fun t ht => (h.own t ht).kept hg (by cases (gv t).ownBlock <;> simp), fun t ht => slice_grown (h.sl t ht) hg (fun _ _ => by simp), h.far, h.save.grown hg (fun k e => by cases e)⟩
theorem Gr.same {w W : World} {G : Nat → Prop} {bL bG : Nat} {vs gv : Nat → Value} {ln gl gl' : Nat → Nat} (h : Gr w W G bL bG vs gv ln gl) (e : ∀ t, t < 4 → gl t = gl' t) : Gr w W G bL bG vs gv ln gl' :=
  ⟨h.grown, fun t ht => by rw [← e t ht]; exact h.own t ht, h.sl, h.far, h.save⟩
theorem atApp {P : Program} {ops : Array Oper} {rest : List Oper} {o : Oper} {a : Act} {w : World} {Q : Exit → Act → World → Prop} (s x : Operand) (_ : o.op = .call { callee := .builtin .append, args := #[s, x], argTypes := #[25, 25] }) (h : wpList P ops Q (o :: rest) a w) : wpList P ops Q (o :: rest) a w := h
theorem Gr.behind {w W W' : World} {G : Nat → Prop} {bL bG : Nat} {vs gv : Nat → Value} {ln gl : Nat → Nat} (h : Gr w W G bL bG vs gv ln gl) {i : Nat} (hi : i < 4) {v' : Value}
    (hp : (v'.ownBlock = (gv i).ownBlock ∧ W.grownBy W' (gv i).ownBlock) ∨ (v'.ownBlock = some W.heap.size ∧ W.grownBy W' none)) : W'.heap[bG]? = some (.cells (r4 gv) 25) := by
  have hbGs : bG < W.heap.size := (Array.getElem?_eq_some_iff.1 h.grown).1
  rcases hp with ⟨_, hg⟩ | ⟨_, hg⟩
  · rw [hg.block _ hbGs (fun e => (h.far i hi bG e.symm).2.1 rfl)]; exact h.grown
  · rw [hg.block _ hbGs (by simp)]; exact h.grown
theorem Gr.app {w W W' : World} {G : Nat → Prop} {bL bG : Nat} {vs gv : Nat → Value} {ln gl : Nat → Nat} (h : Gr w W G bL bG vs gv ln gl) (hbL : bL < w.heap.size) (hbG : bG = w.heap.size) (low : ∀ i, i < 4 → ∀ k, (vs i).ownBlock = some k → k < bG)
    (hz : ∀ i, i < 4 → ∀ a n c, vs i = .slice (some a) n c → a.off = 0 ∧ a.spot = none) (hle : ∀ t, t < 4 → ln t ≤ gl t)
    {i : Nat} (hi : i < 4) {v' : Value} (hv : W'.ownsRow 0 5 1 v' (gl i + 1) (bytesL (gl i + 1) (gF ln i)))
    (hp : (v'.ownBlock = (gv i).ownBlock ∧ W.grownBy W' (gv i).ownBlock) ∨ (v'.ownBlock = some W.heap.size ∧ W.grownBy W' none)) :
    Gr w (W'.setCell ⟨bG, i, none⟩ v') G bL bG vs (fun t => if t = i then v' else gv t) ln (fun t => if t = i then gl i + 1 else gl t) := by
  have hbGs : bG < W.heap.size := (Array.getElem?_eq_some_iff.1 h.grown).1
  have own_lt : ∀ t, t < 4 → ∀ k, (gv t).ownBlock = some k → k < W.heap.size := fun t ht k hk => ((h.own t ht).lt k hk).2
  -- the world behind the append, ahead of the store
  obtain ⟨row, hrow, hg, hv'⟩ : ∃ row, (∀ k, row = some k → (gv i).ownBlock = some k) ∧ W.grownBy W' row ∧ ((v'.ownBlock = (gv i).ownBlock ∧ row = (gv i).ownBlock) ∨ (v'.ownBlock = some W.heap.size ∧ row = none)) := by
    rcases hp with ⟨e, hg⟩ | ⟨e, hg⟩
    · exact ⟨_, fun k hk => hk, hg, .inl ⟨e, rfl⟩⟩
    · exact ⟨none, fun k hk => (by cases hk), hg, .inr ⟨e, rfl⟩⟩
  have far' : ∀ k, v'.ownBlock = some k → k ≠ bL ∧ k ≠ bG ∧ (w.heap.size ≤ k ∨ G k) ∧ ∀ j, j < 4 → j ≠ i → (vs j).ownBlock ≠ some k ∧ (gv j).ownBlock ≠ some k := by
    intro k hk
    rcases hv' with ⟨e, _⟩ | ⟨e, _⟩
    · exact h.far i hi k (by rw [← e]; exact hk)
    · have ek : W.heap.size = k := by rw [e] at hk; exact Option.some.inj hk
      have := h.save.size
      refine ⟨by omega, by omega, .inl (by omega), fun j hj _ => ⟨fun e2 => ?_, fun e2 => ?_⟩⟩
      · have := low j hj k e2; omega
      · have := own_lt j hj k e2; omega
  have gG : W'.heap[bG]? = some (.cells (r4 gv) 25) := by
    rw [hg.block _ hbGs (fun e => (h.far i hi bG (hrow bG e.symm)).2.1 rfl)]; exact h.grown
  have ownW : ∀ t, t < 4 → t ≠ i → W'.ownsRow 0 5 1 (gv t) (gl t) (bytesL (gl t) (gF ln t)) := fun t ht hti => by
    refine (h.own t ht).kept hg ?_
    cases hq : (gv t).ownBlock with
    | none => exact .inl rfl
    | some k => exact .inr fun e => ((h.far i hi k (hrow k e.symm)).2.2.2 t ht hti).2 hq
  have slW : ∀ t, t < 4 → SliceN W' (vs t) (ln t) (fun _ => t) := fun t ht => by
    by_cases hti : t = i
    · subst hti
      by_cases hs : ∃ k, (vs t).ownBlock = some k ∧ row = some k
      · obtain ⟨k, e1, e2⟩ := hs
        have sv := own_slice hv (fun j hj => by unfold gF; split <;> omega)
        have evk : v'.ownBlock = some k := by
          rcases hv' with ⟨e, e3⟩ | ⟨_, e3⟩
          · rw [e, ← e3, e2]
          · rw [e3] at e2; cases e2
        obtain ⟨⟨a, cap, e, h1, h2, h3⟩, hpp⟩ := h.sl t ht
        refine ⟨⟨a, cap, e, h1, h2, fun h0 => ?_⟩, hpp⟩
        obtain ⟨b, off, ea, lb, _⟩ := h3 h0
        obtain ⟨a', cap', e', _, _, h3'⟩ := sv.shape
        obtain ⟨b', off', ea', lb', hc'⟩ := h3' (by omega)
        have z1 := hz t ht ⟨b, off, none⟩ _ _ (by rw [e, ea])
        have z2 : off' = 0 := by
          rcases hv.2 with ⟨_, hn⟩ | ⟨g2, c2, cur2, ev2, _⟩
          · omega
          · rw [ev2] at e'
            injection e' with e4 _ _
            rw [ea'] at e4
            injection e4 with e4
            injection e4 with _ e5 _
            exact e5.symm
        have bk : b = k := by rw [e, ea] at e1; exact Option.some.inj e1
        have bk' : b' = k := by rw [e', ea'] at evk; exact Option.some.inj evk
        have oz : off = 0 := z1.1
        refine ⟨b, off, ea, by omega, fun j hj => ?_⟩
        have := hc' j (by have := hle t ht; omega)
        rw [bk, oz]
        rw [bk', z2] at this
        rw [this]
        unfold gF
        rw [if_pos hj]
      · exact slice_grown (h.sl t ht) hg fun k hk e => hs ⟨k, hk, e⟩
    · exact slice_grown (h.sl t ht) hg fun k hk e => ((h.far i hi k (hrow k e)).2.2.2 t ht hti).1 hk
  have hset := grown_set (k := i) (u := v') gG
  refine ⟨?_, fun t ht => ?_, fun t ht => slice_grown (slW t ht) hset fun k hk e => ?_, fun t ht k hk => ?_, ?_⟩
  · rw [heap4 _ gG, r4_set _ _ hi]
  · by_cases hti : t = i
    · subst hti
      simp only [if_true]
      exact own_stays hv gG fun e => (far' bG e).2.1 rfl
    · simp only [if_neg hti]
      exact own_stays (ownW t ht hti) gG fun e => (h.far t ht bG e).2.1 rfl
  · have := low t ht k hk
    injection e with e
    omega
  · by_cases hti : t = i
    · subst hti
      simp only [if_true] at hk
      obtain ⟨q1, q2, q3, q4⟩ := far' k hk
      exact ⟨q1, q2, q3, fun j hj hjt => ⟨(q4 j hj hjt).1, by simp only [if_neg hjt]; exact (q4 j hj hjt).2⟩⟩
    · simp only [if_neg hti] at hk
      obtain ⟨q1, q2, q3, q4⟩ := h.far t ht k hk
      refine ⟨q1, q2, q3, fun j hj hjt => ⟨(q4 j hj hjt).1, ?_⟩⟩
      by_cases hji : j = i
      · simp only [if_pos hji]
        exact fun e => ((far' k e).2.2.2 t ht (fun e2 => hti e2)).2 hk
      · simp only [if_neg hji]; exact (q4 j hj hjt).2
  · exact (h.save.grown hg fun k e => (h.far i hi k (hrow k e)).2.2.1).cell _ (.inl (by omega))

set_option maxRecDepth 20000 in
set_option maxHeartbeats 4000000 in
theorem apart_any (bL : Nat) (ao : Nat → Option Addr) (ln cp : Nat → Nat) (f : Nat → Nat → Nat) (w : World) (hln : ∀ t, t < 4 → ln t ≤ 140737488355328)
    (hL : w.heap[bL]? = some (.cells (r4 fun t => .slice (ao t) (ln t) (cp t)) 25)) (hown : ∀ t, t < 4 → w.ownsRow 0 5 1 (.slice (ao t) (ln t) (cp t)) (ln t) (bytesL (ln t) (f t)))
    (hd : ∀ i j, i < 4 → j < 4 → i ≠ j → ∀ k, (Value.slice (ao i) (ln i) (cp i)).ownBlock = some k → (Value.slice (ao j) (ln j) (cp j)).ownBlock ≠ some k) (hb : ∀ i, i < 4 → (Value.slice (ao i) (ln i) (cp i)).ownBlock ≠ some bL) :
    Calls Try.prog 23 #[.slice (some ⟨bL, 0, none⟩) 4 4] w fun e w' => e = .returned (.bool true) ∧ Saved (fun k => ∃ i, i < 4 ∧ (Value.slice (ao i) (ln i) (cp i)).ownBlock = some k) w w' := by
  have HLn : Hid (∀ t, t < 4 → ln t ≤ 140737488355328) := hln
  have HL : Hid (w.heap[bL]? = some (.cells (r4 fun t => .slice (ao t) (ln t) (cp t)) 25)) := hL
  have HO : Hid (∀ t, t < 4 → w.ownsRow 0 5 1 (.slice (ao t) (ln t) (cp t)) (ln t) (bytesL (ln t) (f t))) := hown
  have HD : Hid (∀ i j, i < 4 → j < 4 → i ≠ j → ∀ k, (Value.slice (ao i) (ln i) (cp i)).ownBlock = some k → (Value.slice (ao j) (ln j) (cp j)).ownBlock ≠ some k) := hd
  have HB : Hid (∀ i, i < 4 → (Value.slice (ao i) (ln i) (cp i)).ownBlock ≠ some bL) := hb
  clear hln hL hown hd hb
  obtain ⟨G, hG⟩ : ∃ G : Nat → Prop, G = fun k => ∃ i, i < 4 ∧ (Value.slice (ao i) (ln i) (cp i)).ownBlock = some k := ⟨_, rfl⟩
  have GI : Hid (∀ i, i < 4 → ∀ k, (Value.slice (ao i) (ln i) (cp i)).ownBlock = some k → G k) := fun i hi k h => by rw [hG]; exact ⟨i, hi, h⟩
  have GL : Hid (¬ G bL) := by
    show ¬ G bL
    rw [hG]
    rintro ⟨i, hi, e⟩
    exact HB.out i hi e
  have GE : Hid (_) := hG
  clear hG
  go_enter Try.func23, Try.ntmps23
  have mk := run_mk4
  have lists : Hid (∀ W, Saved G w W → W.heap[bL]? = some (.cells (r4 fun t => .slice (ao t) (ln t) (cp t)) 25)) := fun W hS => by
    rw [hS.block bL (Array.getElem?_eq_some_iff.1 HL.out).1 GL.out]; exact HL.out
  go_wp2
  obtain ⟨bG, hbG⟩ : ∃ bG, bG = w.heap.size := ⟨_, rfl⟩
  have BG : Hid (w.heap.size = bG) := hbG.symm
  have low : Hid (∀ i, i < 4 → ∀ k, (Value.slice (ao i) (ln i) (cp i)).ownBlock = some k → k < bG) := fun i hi k hk => by
    rw [← BG.out]; exact ((HO.out i hi).lt k hk).2
  rw [← hbG]
  clear hbG mk
  go_loopw [4] (fun i W => ∃ k : Nat, k ≤ 4 ∧ i = .int .i64 k ∧ (∀ t, t < 4 → W.ownsRow 0 5 1 (.slice (ao t) (ln t) (cp t)) (ln t) (bytesL (ln t) (mkN f k 0 t))) ∧ W.heap[bG]? = some (.cells (r4 fun t => if t < k then .slice (ao t) (ln t) (cp t) else .slice none 0 0) 25) ∧ Saved G w W) (fun i _ => 4 - (intOf i).toNat)
  case atStart =>
    refine ⟨0, by omega, rfl, fun t ht => ?_, ?_, (Saved.refl G w).below (belNew w _) (Nat.le_refl _)⟩
    · rw [mkN_zero]; exact (HO.out t ht).alloc _
    · rw [← BG.out]; exact heapNew w _
  case round =>
    obtain ⟨k, hk, rfl, hrows, hgr, hsave⟩ := hrel
    have R1 : Hid (∀ t, t < 4 → wr.ownsRow 0 5 1 (.slice (ao t) (ln t) (cp t)) (ln t) (bytesL (ln t) (mkN f k 0 t))) := hrows
    have G1 : Hid (wr.heap[bG]? = some (.cells (r4 fun t => if t < k then .slice (ao t) (ln t) (cp t) else .slice none 0 0) 25)) := hgr
    have S1 : Hid (Saved G w wr) := hsave
    clear hrows hgr hsave
    by_cases hlt : k < 4
    · have i1 : (k : Int) < 4 := by omega
      go_wp2
      go_loopw [5] (fun j W => ∃ m : Nat, m ≤ ln k ∧ j = .int .i64 m ∧ (∀ t, t < 4 → W.ownsRow 0 5 1 (.slice (ao t) (ln t) (cp t)) (ln t) (bytesL (ln t) (mkN f k m t))) ∧ W.heap[bG]? = some (.cells (r4 fun t => if t < k then .slice (ao t) (ln t) (cp t) else .slice none 0 0) 25) ∧ Saved G w W) (fun j _ => ln k - (intOf j).toNat)
      case atStart => exact ⟨0, by omega, rfl, R1.out, G1.out, S1.out⟩
      case round =>
        obtain ⟨m, hm, rfl, hrows, hgr, hsave⟩ := hrel
        have R2 : Hid (∀ t, t < 4 → wr.ownsRow 0 5 1 (.slice (ao t) (ln t) (cp t)) (ln t) (bytesL (ln t) (mkN f k m t))) := hrows
        have G2 : Hid (wr.heap[bG]? = some (.cells (r4 fun t => if t < k then .slice (ao t) (ln t) (cp t) else .slice none 0 0) 25)) := hgr
        have S2 : Hid (Saved G w wr) := hsave
        clear hrows hgr hsave R1 S1 G1
        have cl := r4_cell (lists.out wr S2.out) hlt
        by_cases hmn : m < ln k
        · have i2 : (m : Int) < ln k := by omega
          obtain ⟨g, eg, cur, hg, hmc⟩ := own_shape0 (R2.out k hlt) hmn
          have hown := R2.out k hlt
          rw [eg] at cl hown
          have q1 : wr.cell? ⟨g, m, none⟩ = some cur[m] := by rw [cell_of_row _ _ _ _ _ _ hg]; exact Array.getElem?_eq_getElem hmc
          have q2 : wr.frozen? ⟨g, m, none⟩ = false := frozen4 hg
          have w2 : IntKind.u8.wrap (k : Int) = (k : Int) := by simp [IntKind.wrap, IntKind.bits, IntKind.signed]; omega
          have w3 : wrap64 ((m : Int) + 1) = ((m + 1 : Nat) : Int) := by have := HLn.out k hlt; simp [wrap64]; omega
          have W3 : Hid (_) := w3
          have HK : Hid (wr.ownsRow 0 5 1 (.slice (some ⟨g, 0, none⟩) (ln k) (cp k)) (ln k) (bytesL (ln k) (mkN f k m k))) := hown
          have HE : Hid (ao k = some ⟨g, 0, none⟩) := eg
          have HG : Hid (wr.heap[g]? = some (.cells cur 5)) := hg
          clear hown eg w3 hg
          go_wp2
          go_roundw
          case rel =>
            have gb : (Value.slice (ao k) (ln k) (cp k)).ownBlock = some g := by rw [HE.out]; rfl
            refine ⟨m + 1, by omega, by rw [W3.out], fun t ht => ?_, ?_, S2.out.cell _ (.inr (GI.out k hlt g gb))⟩
            · by_cases e : t = k
              · subst e
                rw [HE.out, ← mkN_step]
                exact own_set t HK.out
              · rw [mkN_other _ _ _ _ e]
                exact own_stays (R2.out t ht) HG.out fun e' => HD.out k t hlt ht (fun e2 => e e2.symm) g gb e'
            · rw [heap4o _ HG.out (by have := low.out k hlt g gb; omega)]; exact G2.out
          case measure =>
            rw [W3.out]
            simp only [intOf, Int.toNat_natCast]
            omega
        · have emn : ln k = m := by omega
          subst emn
          have q1 : wr.cell? ⟨bG, k, none⟩ = some (if k < k then .slice (ao k) (ln k) (cp k) else .slice none 0 0) := r4_cell (x := fun t => if t < k then .slice (ao t) (ln t) (cp t) else .slice none 0 0) G2.out hlt
          have q2 : wr.frozen? ⟨bG, k, none⟩ = false := frozen4 G2.out
          go_wp2
          go_roundw
          case rel =>
            refine ⟨k + 1, by omega, by go_num, fun t ht => ?_, ?_, S2.out.cell _ (.inl (Nat.le_of_eq BG.out))⟩
            · have e : bytesL (ln t) (mkN f (k + 1) 0 t) = bytesL (ln t) (mkN f k (ln k) t) := by
                by_cases h : t = k
                · subst h; exact (mkN_next f t (ln t) t).symm
                · refine bytesL_congr fun j _ => ?_
                  unfold mkN
                  by_cases h1 : t < k
                  · rw [if_pos h1, if_pos (by omega)]
                  · rw [if_neg h1, if_neg (by omega), if_neg (by omega), if_neg (by omega)]
              rw [e]
              exact own_stays (R2.out t ht) G2.out fun e' => by have := low.out t ht bG e'; omega
            · rw [heap4 _ G2.out, r4_set _ _ hlt]
              refine congrArg (fun c => some (Obj.cells c 25)) (r4_congr fun t ht => ?_)
              by_cases h : t = k
              · subst h; rw [if_pos rfl, if_pos (by omega)]
              · by_cases h1 : t < k
                · rw [if_neg h, if_pos h1, if_pos (by omega)]
                · rw [if_neg h, if_neg h1, if_neg (by omega)]
          case measure => simp [intOf]; omega
    · have ek : k = 4 := by omega
      subst ek
      have own4 : ∀ t, t < 4 → wr.ownsRow 0 5 1 (.slice (ao t) (ln t) (cp t)) (ln t) (bytesL (ln t) (fun _ => t)) := fun t ht => by
        rw [bytesL_congr (g := mkN f 4 0 t) fun j _ => by unfold mkN; rw [if_pos ht]]
        exact R1.out t ht
      have Z : Hid (∀ i, i < 4 → ∀ a n c, (fun t => Value.slice (ao t) (ln t) (cp t)) i = .slice (some a) n c → a.off = 0 ∧ a.spot = none) := fun i hi a n c e => by
        rcases (HO.out i hi).2 with ⟨e1, _⟩ | ⟨g, c1, cur, e1, _⟩
        · have := e.symm.trans e1
          injection this with e2 _ _
          cases e2
        · have := e.symm.trans e1
          injection this with e2 _ _
          injection e2 with e2
          subst e2
          exact ⟨rfl, rfl⟩
      have Gr0 : Hid (Gr w wr G bL bG (fun t => .slice (ao t) (ln t) (cp t)) (fun t => .slice (ao t) (ln t) (cp t)) ln (fun t => ln t + 0)) := by
        refine ⟨?_, fun t ht => ?_, fun t ht => own_slice (own4 t ht) (fun _ _ => by omega), fun t ht k hk => ⟨fun e => HB.out t ht (by rw [← e]; exact hk), fun e => ?_, .inr (GI.out t ht k hk), fun j hj hjt => ⟨HD.out t j ht hj (fun e => hjt e.symm) k hk, HD.out t j ht hj (fun e => hjt e.symm) k hk⟩⟩, S1.out⟩
        · rw [G1.out]
          exact congrArg (fun c => some (Obj.cells c 25)) (r4_congr fun t ht => if_pos ht)
        · rw [bytesL_congr (g := fun _ => t) fun j hj => by unfold gF; rw [if_pos (by omega)]]
          exact own4 t ht
        · have := low.out t ht k hk; omega
      clear own4 R1 G1 S1
      go_wp2
      go_loopw [6] (fun x W => ∃ r : Nat, r ≤ 20 ∧ x = .int .i64 r ∧ ∃ gv, Gr w W G bL bG (fun t => .slice (ao t) (ln t) (cp t)) gv ln (fun t => ln t + r)) (fun x _ => 20 - (intOf x).toNat)
      case atStart => exact ⟨0, by omega, rfl, _, Gr0.out⟩
      case round =>
        obtain ⟨r, hr, rfl, gv, hgr⟩ := hrel
        have R3 : Hid (Gr w wr G bL bG (fun t => .slice (ao t) (ln t) (cp t)) gv ln (fun t => ln t + r)) := hgr
        clear hgr Gr0
        by_cases hr2 : r < 20
        · have i3 : (r : Int) < 20 := by omega
          go_wp2
          go_loopw [7] (fun x W => ∃ i : Nat, i ≤ 4 ∧ x = .int .i64 i ∧ ∃ gv, Gr w W G bL bG (fun t => .slice (ao t) (ln t) (cp t)) gv ln (fun t => ln t + r + if t < i then 1 else 0)) (fun x _ => 4 - (intOf x).toNat)
          case atStart => exact ⟨0, by omega, rfl, _, R3.out.same fun t _ => by rw [if_neg (by omega), Nat.add_zero]⟩
          case round =>
            obtain ⟨i, hi, rfl, gv, hgr⟩ := hrel
            have R4 : Hid (Gr w wr G bL bG (fun t => .slice (ao t) (ln t) (cp t)) gv ln (fun t => ln t + r + if t < i then 1 else 0)) := hgr
            clear hgr R3
            by_cases hi4 : i < 4
            · have i4 : (i : Int) < 4 := by omega
              have cl := r4_cell R4.out.grown hi4
              have w1 : wrap64 (100 + (i : Int)) = 100 + (i : Int) := by simp [wrap64]; omega
              have w2 : IntKind.u8.wrap (100 + (i : Int)) = 100 + (i : Int) := by simp [IntKind.wrap, IntKind.bits, IntKind.signed]; omega
              have hk := R4.out.keep (World.grownBy_alloc wr (.cells #[.int .u8 (100 + (i : Int))] 5) none)
              have K4 : Hid (Gr w (wr.alloc (.cells #[.int .u8 (100 + (i : Int))] 5)) G bL bG (fun t => .slice (ao t) (ln t) (cp t)) gv ln (fun t => ln t + r + if t < i then 1 else 0)) := hk
              have src : (wr.alloc (.cells #[.int .u8 (100 + (i : Int))] 5)).heap[wr.heap.size]? = some (.cells #[.int .u8 ((gF ln i (ln i + r + if i < i then 1 else 0) : Nat) : Int)] 5) := by
                rw [heapNew wr _]
                unfold gF
                rw [if_neg (by omega), Int.natCast_add]
                rfl
              have hbG := BG.out
              clear hk
              go_wp2_with (first
                | (refine atApp (.tmp 59) (.tmp 63) rfl ?_; go_must (refine wpList_appP (B := 0) (g := wr.heap.size) (v := gv i) (p := gF ln i) rfl (.tmp 59) (.tmp 63) rfl rfl rfl (K4.out.own i hi4) src (by have := HLn.out i hi4; simp only [Nat.lt_irrefl, if_false]; omega) (Nat.zero_le _) ?_; intro v7 w7 own7 hp7; obtain ⟨ao7, cap7, rfl⟩ := own_any own7; simp only [Act.put, List.setIfInBounds_toArray, List.set_cons_succ, List.set_cons_zero]; have O7 : Hid (_) := K4.out.app (by have := (Array.getElem?_eq_some_iff.1 HL.out).1; exact this) hbG.symm low.out Z.out (fun t _ => by omega) hi4 own7 hp7; have gG : w7.heap[bG]? = some (.cells (r4 gv) 25) := K4.out.behind hi4 hp7; have c7 : w7.cell? ⟨bG, i, none⟩ = some (gv i) := r4_cell gG hi4; have f7 : w7.frozen? ⟨bG, i, none⟩ = false := frozen4 gG; clear own7 hp7 gG)))
              go_roundw
              case rel =>
                have O8 := O7.out
                simp only [Nat.lt_irrefl, if_false, Nat.add_zero] at O8
                refine ⟨i + 1, by omega, by go_num, _, O8.same fun t ht => ?_⟩
                by_cases h : t = i
                · subst h
                  rw [if_pos rfl, if_pos (by omega)]
                · rw [if_neg h]
                  by_cases h1 : t < i
                  · rw [if_pos h1, if_pos (by omega)]
                  · rw [if_neg h1, if_neg (by omega)]
              case measure => simp [intOf]; omega
            · have ei : i = 4 := by omega
              subst ei
              go_wp2
              go_roundw
              case rel => exact ⟨r + 1, by omega, by go_num, _, R4.out.same fun t ht => by rw [if_pos ht, Nat.add_assoc]⟩
              case measure => simp [intOf]; omega
        · have er : r = 20 := by omega
          subst er
          obtain ⟨Y, hY⟩ : ∃ Y, Y = wr := ⟨_, rfl⟩
          have HY : Hid (Y = wr) := hY
          have R6 : Hid (Gr w Y G bL bG (fun t => .slice (ao t) (ln t) (cp t)) gv ln (fun t => ln t + 20)) := by rw [hY]; exact R3.out
          clear hY R3
          go_wp2
          go_loopw [8] (fun x W => ∃ i : Nat, i ≤ 4 ∧ x = .int .i64 i ∧ W = Y) (fun x _ => 4 - (intOf x).toNat)
          case atStart => exact ⟨0, by omega, rfl, HY.out.symm⟩
          case round =>
            obtain ⟨i, hi, rfl, rfl⟩ := hrel
            by_cases hi4 : i < 4
            · have i4 : (i : Int) < 4 := by omega
              have hown := R6.out.own i hi4
              obtain ⟨⟨a1, c1, e1, hle1, hm1, h1⟩, -⟩ := own_slice hown (fun j hj => by unfold gF; split <;> omega)
              obtain ⟨b, off, ea, lb, hc⟩ := h1 (by omega)
              have cl := r4_cell R6.out.grown hi4
              rw [e1, ea] at cl
              have c0 := r4_cell (lists.out wr R6.out.save) hi4
              have HC : Hid (∀ j, j < ln i + 20 → wr.cell? ⟨b, off + j, none⟩ = some (.int .u8 (gF ln i j))) := hc
              have hln := HLn.out i hi4
              have SL : Hid (SliceN wr (.slice (ao i) (ln i) (cp i)) (ln i) (fun _ => i)) := R6.out.sl i hi4
              clear hown e1 ea hc h1 lb
              obtain ⟨X, hX⟩ : ∃ X, X = wr := ⟨_, rfl⟩
              have HX : Hid (X = wr) := hX
              have w2 : IntKind.u8.wrap (i : Int) = (i : Int) := by simp [IntKind.wrap, IntKind.bits, IntKind.signed]; omega
              have w1 : wrap64 (100 + (i : Int)) = 100 + (i : Int) := by simp [wrap64]; omega
              have w4 : IntKind.u8.wrap (100 + (i : Int)) = 100 + (i : Int) := by simp [IntKind.wrap, IntKind.bits, IntKind.signed]; omega
              have CL : Hid (X.cell? ⟨bG, i, none⟩ = some (.slice (some ⟨b, off, none⟩) (ln i + 20) c1)) := by rw [hX]; exact cl
              have C0 : Hid (X.cell? ⟨bL, i, none⟩ = some (.slice (ao i) (ln i) (cp i))) := by rw [hX]; exact c0
              have HC' : Hid (∀ j, j < ln i + 20 → X.cell? ⟨b, off + j, none⟩ = some (.int .u8 (gF ln i j))) := by rw [hX]; exact HC.out
              have SL' : Hid (SliceN X (.slice (ao i) (ln i) (cp i)) (ln i) (fun _ => i)) := by rw [hX]; exact SL.out
              have R7 : Hid (Gr w X G bL bG (fun t => .slice (ao t) (ln t) (cp t)) gv ln (fun t => ln t + 20)) := by rw [hX]; exact R6.out
              clear hX HC SL
              go_wp2
              go_loopw [9] (fun x W => ∃ j : Nat, j ≤ ln i + 20 ∧ x = .int .i64 j ∧ W = X) (fun x _ => ln i + 20 - (intOf x).toNat)
              case atStart => exact ⟨0, by omega, rfl, HX.out.symm⟩
              case round =>
                obtain ⟨j, hj, rfl, rfl⟩ := hrel
                have c2 := CL.out
                have c3 := C0.out
                by_cases hj2 : j < ln i + 20
                · have c4 := HC'.out j hj2
                  have i7 : (j : Int) < (ln i : Int) + 20 := by omega
                  have i8 : (j : Int) < ((ln i + 20 : Nat) : Int) := by omega
                  by_cases hj3 : j < ln i
                  · have i5 : (j : Int) < ln i := by omega
                    have i6 : ¬ (ln i : Int) ≤ j := by omega
                    rw [show gF ln i j = i by unfold gF; rw [if_pos hj3]] at c4
                    obtain ⟨⟨a2, k2, e2, _, _, h2⟩, -⟩ := SL'.out
                    obtain ⟨b2, off2, ea2, lb2, hc2⟩ := h2 (by omega)
                    have c5 := hc2 j hj3
                    have ea3 : ao i = some ⟨b2, off2, none⟩ := by
                      injection e2 with e3 _ _
                      rw [e3]; exact ea2
                    rw [ea3] at c3
                    clear h2 hc2 e2 ea2 lb2 ea3
                    go_wp2
                    go_roundw
                    case rel => exact ⟨j + 1, by omega, by go_num, by first | rfl | trivial⟩
                    case measure => simp [intOf]; omega
                  · have i5 : ¬ (j : Int) < ln i := by omega
                    have i6 : (ln i : Int) ≤ j := by omega
                    rw [show ((gF ln i j : Nat) : Int) = 100 + (i : Int) by unfold gF; rw [if_neg hj3, Int.natCast_add]; rfl] at c4
                    go_wp2
                    go_roundw
                    case rel => exact ⟨j + 1, by omega, by go_num, by first | rfl | trivial⟩
                    case measure => simp [intOf]; omega
                · have i7 : ¬ (j : Int) < (ln i : Int) + 20 := by omega
                  have i8 : ¬ (j : Int) < ((ln i + 20 : Nat) : Int) := by omega
                  go_wp2
                  go_roundw
                  case rel => exact ⟨i + 1, by omega, by go_num, by first | rfl | trivial⟩
                  case measure => simp [intOf]; omega
            · have ei : i = 4 := by omega
              subst ei
              go_wp2
              go_ret
              exact ⟨rfl, by rw [← GE.out]; exact R6.out.save⟩
end Go.Proofs.Ytealknodagdjaaa.By8
