import Derived.Test.YtjoffdaknacbpaaO8i
import Derived.Test.YtjoffdaknacbpaaL9c
namespace Go.Proofs.Ytjoffdaknacbpaa.Sha
open Go.RowKit Gf8 Aes By8 Cel Cf Win Drw
/- ShardsPlays: three filters and three books; a script of steps. -/

def c3 (x : Nat → Value) : Array Value := #[x 0, x 1, x 2]
theorem c3_at (x : Nat → Value) {k : Nat} (h : k < 3) : (c3 x)[k]? = some (x k) := by
  match k, h with
  | 0, _ => rfl
  | 1, _ => rfl
  | 2, _ => rfl
theorem c3_set (x : Nat → Value) {k : Nat} (u : Value) (h : k < 3) : (c3 x).setIfInBounds k u = c3 (up x k u) := by
  match k, h with
  | 0, _ => rfl
  | 1, _ => rfl
  | 2, _ => rfl
def t3 {α : Type} (a b c : α) : Nat → α
  | 0 => a
  | 1 => b
  | _ => c
/-- Three filters v, offered the first cf of o; three books r that hold the first cr of o; what the lists of both hold. -/
structure PlG (W : World) (B fsb bkb : Nat) (lo hi : Nat → Nat) (v rb r : Nat → Value) (o : Nat → Nat → Off) (cf cr : Nat → Nat) : Prop where
  fs : W.heap[fsb]? = some (.cells (c3 v) 24)
  bk : W.heap[bkb]? = some (.cells (c3 rb) 36)
  fl : ∀ j, j < 3 → Flr W (lo j) (hi j) (v j) (o j) (cf j)
  dj : ∀ p q, p < 3 → q < 3 → p ≠ q → hi p ≤ lo q ∨ hi q ≤ lo p
  hs : ∀ j, j < 3 → hi j ≤ W.heap.size
  rs : Fr 38 17 B 3 r cr (fun j => ofL (o j) (cr j)) W
  gb : B ≤ fsb ∧ B ≤ bkb ∧ ∀ j, j < 3 → B ≤ lo j
  by' : ∀ j, j < 3 → ∀ i, i < cr j → ∀ k, k < 16 → (o j i).1 k < 256
section
variable {W X : World} {B fsb bkb : Nat} {lo hi : Nat → Nat} {v rb r : Nat → Value} {o p : Nat → Nat → Off} {cf cr : Nat → Nat}
theorem PlG.on (h : PlG W B fsb bkb lo hi v rb r o cf cr) (hb : Below W.heap.size W X) : PlG X B fsb bkb lo hi v rb r o cf cr :=
  ⟨on9 h.fs hb, on9 h.bk hb, fun j hj => (h.fl j hj).on hb, h.dj, fun j hj => Nat.le_trans (h.hs j hj) hb.size, h.rs.on hb, h.gb, h.by'⟩
theorem PlG.cg (h : PlG W B fsb bkb lo hi v rb r o cf cr) (e : ∀ j, j < 3 → ∀ i, i < cf j ∨ i < cr j → o j i = p j i) : PlG W B fsb bkb lo hi v rb r p cf cr :=
  ⟨h.fs, h.bk, fun j hj => (h.fl j hj).cg fun i hi => e j hj i (Or.inl hi), h.dj, h.hs, h.rs.cg fun t ht => ofL_cg fun i hi => e t ht i (Or.inr hi), h.gb, fun j hj i hi k hk => by rw [← e j hj i (Or.inr hi)]; exact h.by' j hj i hi k hk⟩
theorem PlG.ofs (h : PlG W B fsb bkb lo hi v rb r o cf cr) {k : Nat} (hk : k < 3) : Ofs W (r k) (cr k) (o k) := own_ofs (h.rs.rows k hk) (h.by' k hk)
/-- A filter was offered something. -/
theorem PlG.offer {k m : Nat} (h : PlG W B fsb bkb lo hi v rb r o cf cr) (hk : k < 3) (hv : Flr X (lo k) (hi k) (v k) (o k) m) (hc : Below W.heap.size W X ∨ ∃ b es clock, lo k ≤ b ∧ b < hi k ∧ W.heap[b]? = some (.map es clock) ∧ W.grownBy X (some b)) : PlG X B fsb bkb lo hi v rb r o (up cf k m) cr := by
  rcases hc with hb | ⟨b, es, clock, hb1, hb2, hm, gr⟩
  · have q := h.on hb
    refine ⟨q.fs, q.bk, fun j hj => ?_, q.dj, q.hs, q.rs, q.gb, q.by'⟩
    by_cases e : j = k
    · subst e; rw [up_at]; exact hv
    · rw [up_ne _ _ e]; exact q.fl j hj
  · have keep : ∀ (g : Nat) (c : Array Value) (t : TypeId), W.heap[g]? = some (Obj.cells c t) → X.heap[g]? = some (Obj.cells c t) := fun g c t hg => by
      rw [gr.block g (Array.getElem?_eq_some_iff.1 hg).1 (fun e => by cases e; rw [hg] at hm; cases hm)]
      exact hg
    refine ⟨keep _ _ _ h.fs, keep _ _ _ h.bk, fun j hj => ?_, h.dj, fun j hj => Nat.le_trans (h.hs j hj) gr.size, ⟨fun t ht => ?_, h.rs.dis⟩, h.gb, h.by'⟩
    · by_cases e : j = k
      · subst e; rw [up_at]; exact hv
      · rw [up_ne _ _ e]
        refine (h.fl j hj).keep fun g h1 h2 => gr.block g (Nat.lt_of_lt_of_le h2 (h.hs j hj)) (fun q => ?_)
        cases q
        rcases h.dj j k hj hk e with q | q <;> omega
    · refine ownG (h.rs.rows t ht) gr fun g hg q => ?_
      cases q
      rcases (h.rs.rows t ht).2 with ⟨e1, _⟩ | ⟨g', cap, cur, e1, _, hg', _⟩
      · rw [e1] at hg; cases hg
      · rw [e1] at hg
        cases hg
        rw [hg'] at hm
        cases hm
theorem offB {V : World} {lo' hi' : Nat} (hb : Below B V W) (hB : B ≤ lo') (hc : Below W.heap.size W X ∨ ∃ b es clock, lo' ≤ b ∧ b < hi' ∧ W.heap[b]? = some (.map es clock) ∧ W.grownBy X (some b)) (hV : B = V.heap.size) : Below B V X := by
  rcases hc with h | ⟨b, es, clock, h1, h2, h3, gr⟩
  · exact hb.trans (h.mono (by rw [hV]; exact hb.size))
  · exact hb.grown gr (by rw [hV]; exact hb.size) (fun k hk => by cases hk; omega)
/-- A book has grown by one offer. -/
theorem PlG.app {k n c' : Nat} {r' : Value} (h : PlG W B fsb bkb lo hi v rb r o cf cr) (hk : k < 3) (hn : cr k = n) (own : X.ownsRow B 38 17 r' (n + 1) (ofL (o k) (n + 1)))
    (pl : (∃ b c, r k = .slice (some ⟨b, 0, none⟩) n c ∧ r' = .slice (some ⟨b, 0, none⟩) (n + 1) c ∧ W.grownBy X (some b)) ∨ (Below W.heap.size W X ∧ ∀ q, r'.ownBlock = some q → W.heap.size ≤ q)) (hB : ∀ i, i < 16 → (o k n).1 i < 256) (hc : c' = n + 1) : PlG X B fsb bkb lo hi v rb (up r k r') o cf (up cr k c') := by
  subst hc
  subst hn
  have hby : ∀ j, j < 3 → ∀ i, i < up cr k (cr k + 1) j → ∀ q, q < 16 → (o j i).1 q < 256 := fun j hj i hi q hq => by
    by_cases e : j = k
    · subst e
      rw [up_at] at hi
      by_cases e2 : i = cr j
      · subst e2; exact hB q hq
      · exact h.by' j hj i (by omega) q hq
    · rw [up_ne _ _ e] at hi
      exact h.by' j hj i hi q hq
  have key : ∀ (q : World), (∀ j, j < 3 → j ≠ k → q.ownsRow B 38 17 (r j) (cr j) (ofL (o j) (cr j))) → (q.ownsRow B 38 17 r' (cr k + 1) (ofL (o k) (cr k + 1))) → (∀ j, j < 3 → j ≠ k → ∀ b, (r j).ownBlock = some b → r'.ownBlock ≠ some b) → Fr 38 17 B 3 (up r k r') (up cr k (cr k + 1)) (fun j => ofL (o j) (up cr k (cr k + 1) j)) q := fun q h1 h2 h3 => by
    refine ⟨fun t ht => ?_, fun x y hx hy hxy b hb e => ?_⟩
    · by_cases e : t = k
      · subst e
        simp only [up_at]
        exact h2
      · simp only [up_ne _ _ e]
        exact h1 t ht e
    · by_cases ex : x = k
      · subst ex
        rw [up_at] at hb
        rw [up_ne _ _ (fun w => hxy w.symm)] at e
        exact h3 y hy (fun w => hxy w.symm) b e hb
      · rw [up_ne _ _ ex] at hb
        by_cases ey : y = k
        · subst ey
          rw [up_at] at e
          exact h3 x hx ex b hb e
        · rw [up_ne _ _ ey] at e
          exact h.rs.dis x y hx hy hxy b hb e
  rcases pl with ⟨b, c, e1, e2, gr⟩ | ⟨hb, hnew⟩
  · have hrk := h.rs.rows k hk
    obtain ⟨cur, hg⟩ : ∃ cur, W.heap[b]? = some (.cells cur 38) := by
      rcases hrk.2 with ⟨q1, _⟩ | ⟨g', cap, cur, q1, _, hg', _⟩
      · rw [e1] at q1; cases q1
      · rw [e1] at q1
        injection q1 with q1 _ _
        injection q1 with q1
        injection q1 with q1 _
        subst q1
        exact ⟨cur, hg'⟩
    have keep : ∀ (g : Nat) (d : Array Value) (t : TypeId), W.heap[g]? = some (Obj.cells d t) → t ≠ 38 → X.heap[g]? = some (Obj.cells d t) := fun g d t hg' ht => by
      rw [gr.block g (Array.getElem?_eq_some_iff.1 hg').1 (fun e => by cases e; rw [hg] at hg'; cases hg'; exact ht rfl)]
      exact hg'
    have hown : (r k).ownBlock = some b := by rw [e1]; rfl
    refine ⟨keep _ _ _ h.fs (by decide), keep _ _ _ h.bk (by decide), fun j hj => (h.fl j hj).offT hg (by decide) (by decide) gr, h.dj, fun j hj => Nat.le_trans (h.hs j hj) gr.size, key X (fun j hj hjk => ownG (h.rs.rows j hj) gr fun g hg2 q => ?_) own (fun j hj hjk g hg2 q => ?_), h.gb, hby⟩
    · cases q
      exact h.rs.dis j k hj hk hjk b hg2 hown
    · rw [e2] at q
      cases q
      exact h.rs.dis j k hj hk hjk b hg2 hown
  · have q := h.on hb
    refine ⟨q.fs, q.bk, q.fl, q.dj, q.hs, key X (fun j hj _ => q.rs.rows j hj) own (fun j hj hjk g hg2 e => ?_), q.gb, hby⟩
    have h1 := hnew g e
    have h2 := ((h.rs.rows j hj).lt g hg2).2
    omega
/-- The list of books names the grown one. -/
theorem PlG.store {k : Nat} {u : Value} (h : PlG W B fsb bkb lo hi v rb r o cf cr) (hk : k < 3) : PlG (W.setCell ⟨bkb, k, none⟩ u) B fsb bkb lo hi v (up rb k u) r o cf cr := by
  have gr : W.grownBy (W.setCell ⟨bkb, k, none⟩ u) (some bkb) := grC
  refine ⟨?_, ?_, fun j hj => (h.fl j hj).offT h.bk (by decide) (by decide) gr, h.dj, fun j hj => Nat.le_trans (h.hs j hj) gr.size, h.rs.offT h.bk (by decide) gr, h.gb, h.by'⟩
  · rw [heap4o _ h.bk (neT h.fs h.bk (by decide))]; exact h.fs
  · rw [heap4 _ h.bk, c3_set _ _ hk]
end
/-- The cells of a step. -/
def spL (k w : Int) (f : Nat → Nat) (z : Int) : List Value := [.int .i64 k, .int .i64 w] ++ (bytesL 16 f ++ [.int .i64 z])
def spC (k w : Int) (f : Nat → Nat) (z : Int) : Array Value := (spL k w f z).toArray
theorem spL_len (k w : Int) (f : Nat → Nat) (z : Int) : (spL k w f z).length = 19 := by simp [spL, bytesL_len]
theorem spL_at (k w : Int) (f : Nat → Nat) (z : Int) : (spL k w f z)[0]? = some (.int .i64 k) ∧ (spL k w f z)[1]? = some (.int .i64 w) ∧ (∀ i, i < 16 → (spL k w f z)[2 + i]? = some (.int .u8 ((f i : Nat) : Int))) ∧ (spL k w f z)[18]? = some (.int .i64 z) := by
  have l := bytesL_len 16 f
  refine ⟨rfl, rfl, fun i hi => ?_, ?_⟩
  · unfold spL
    rw [List.getElem?_append_right (by simp), List.getElem?_append_left (by simp; omega)]
    simp only [List.length_cons, List.length_nil]
    rw [show 2 + i - (0 + 1 + 1) = i by omega]
    exact bytesL_at 16 f hi
  · unfold spL
    rw [List.getElem?_append_right (by simp), List.getElem?_append_right (by simp [l])]
    simp [l]
/-- A script. -/
structure Sps (W : World) (v : Value) (n : Nat) (kd wh ix : Nat → Int) (tg : Nat → Nat → Nat) : Prop where
  shape : ∃ a c, v = .slice a n c ∧ (0 < n → ∃ b q, a = some ⟨b, q, none⟩ ∧ b < W.heap.size ∧ ∀ j, j < n → W.rangeAt b (q + j * 19) (spL (kd j) (wh j) (tg j) (ix j)))
  byt : ∀ j, j < n → ∀ i, i < 16 → tg j i < 256
  num : ∀ j, j < n → I64 (wh j)
section
variable {W W' : World} {v : Value} {n : Nat} {kd wh ix : Nat → Int} {tg : Nat → Nat → Nat}
theorem range_on {b q : Nat} {l : List Value} (h : W.rangeAt b q l) (hb : Below W.heap.size W W') (hl : b < W.heap.size) : W'.rangeAt b q l := fun j x hx => by
  rw [cell_below hb hl]
  exact h j x hx
theorem Sps.on (h : Sps W v n kd wh ix tg) (hb : Below W.heap.size W W') : Sps W' v n kd wh ix tg := by
  obtain ⟨⟨a, c, e, h3⟩, h1, h2⟩ := h
  refine ⟨⟨a, c, e, fun h0 => ?_⟩, h1, h2⟩
  obtain ⟨b, q, e1, e2, e3⟩ := h3 h0
  exact ⟨b, q, e1, Nat.lt_of_lt_of_le e2 hb.size, fun j hj => range_on (e3 j hj) hb e2⟩
theorem Sps.shp (h : Sps W v n kd wh ix tg) : ∃ a c, v = .slice a n c := by
  obtain ⟨a, c, e, _⟩ := h.shape
  exact ⟨a, c, e⟩
theorem Sps.at (h : Sps W v n kd wh ix tg) (h0 : 0 < n) : ∃ b q c, v = .slice (some ⟨b, q, none⟩) n c ∧ b < W.heap.size ∧ ∀ j, j < n → W.rangeAt b (q + j * 19) (spL (kd j) (wh j) (tg j) (ix j)) := by
  obtain ⟨a, c, e, h3⟩ := h.shape
  obtain ⟨b, q, e1, e2, e3⟩ := h3 h0
  exact ⟨b, q, c, by rw [e, e1], e2, e3⟩
theorem range_tag {b q : Nat} {k w z : Int} {f : Nat → Nat} (h : W.rangeAt b q (spL k w f z)) : ∀ j, j < 16 → W.cell? ⟨b, q + 2 + j, none⟩ = some (.int .u8 ((f j : Nat) : Int)) := fun j hj => by
  rw [Nat.add_assoc]
  exact h _ _ ((spL_at k w f z).2.2.1 j hj)
end
section
variable {o : Oper} {a : Act} {w : World}
theorem execFldX0 {x : Operand} {b k : Nat} (ho : o.op = .fieldAddr 33 x 0) (hx : a.eval x = .pointer (some ⟨b, k, none⟩)) : (execOp a.eval o).run Try.prog w = .ok (.value (.pointer (some ⟨b, k, none⟩))) w := by
  unfold execOp
  simp only [ho, hx]
  simp [go_sem]
theorem execFldX1 {x : Operand} {b k : Nat} (ho : o.op = .fieldAddr 33 x 1) (hx : a.eval x = .pointer (some ⟨b, k, none⟩)) : (execOp a.eval o).run Try.prog w = .ok (.value (.pointer (some ⟨b, k + 1, none⟩))) w := by
  unfold execOp
  simp only [ho, hx]
  simp [go_sem]
theorem execFldX2 {x : Operand} {b k : Nat} (ho : o.op = .fieldAddr 33 x 2) (hx : a.eval x = .pointer (some ⟨b, k, none⟩)) : (execOp a.eval o).run Try.prog w = .ok (.value (.pointer (some ⟨b, k + 2, none⟩))) w := by
  unfold execOp
  simp only [ho, hx]
  simp [go_sem]
theorem execFldX3 {x : Operand} {b k : Nat} (ho : o.op = .fieldAddr 33 x 3) (hx : a.eval x = .pointer (some ⟨b, k, none⟩)) : (execOp a.eval o).run Try.prog w = .ok (.value (.pointer (some ⟨b, k + 18, none⟩))) w := by
  unfold execOp
  simp only [ho, hx]
  simp [go_sem]
theorem execIdxXs {x i : Operand} {b off n cap k : Nat} (ho : o.op = .indexAddr 22 x i) (hx : a.eval x = .slice (some ⟨b, off, none⟩) n cap) (hi : a.eval i = .int .i64 ((k : Nat) : Int)) (hk : k < n) : (execOp a.eval o).run Try.prog w = .ok (.value (.pointer (some ⟨b, off + k * 19, none⟩))) w := by
  unfold execOp
  simp only [ho, hx, hi]
  simp [go_sem, hk]
theorem execLenXs {x : Operand} {v : Value} {len : Nat} (ho : o.op = .call { callee := .builtin .len, args := #[x], argTypes := #[22] }) (hx : a.eval x = v) (hv : ∃ ao c, v = .slice ao len c) : (execOp a.eval o).run Try.prog w = .ok (.value (.int .i64 ((len : Nat) : Int))) w := by
  obtain ⟨ao, c, rfl⟩ := hv
  unfold execOp
  simp only [ho, resolve, invoke, builtin, List.map_toArray, List.map_cons, List.map_nil, hx]
  simp [go_sem]
theorem execLdX {x : Operand} {b q : Nat} {k u z : Int} {f : Nat → Nat} (ho : o.op = .load 33 x) (hx : a.eval x = .pointer (some ⟨b, q, none⟩)) (hc : w.rangeAt b q (spL k u f z)) : (execOp a.eval o).run Try.prog w = .ok (.value (.agg (spC k u f z))) w :=
  execLoadMid (P := Try.prog) ho hx hc Try.underlying33 rfl (by rw [spL_len]; kernel_rfl)
theorem zeroX (w : World) : (zeroValue 33).run Try.prog w = .ok (.agg (spC 0 0 (fun _ => 0) 0)) w := by kernel_rfl
theorem execAlX (ho : o.op = .alloc 33) : (execOp a.eval o).run Try.prog w = .ok (.value (.pointer (some ⟨w.heap.size, 0, none⟩))) (w.alloc (.cells (spC 0 0 (fun _ => 0) 0) 33)) := by
  have h := zeroX w
  unfold execOp
  simp only [ho]
  simp [go_sem]
  rfl
theorem spC_size (k u : Int) (f : Nat → Nat) (z : Int) : (spC k u f z).size = 19 := by simp [spC, spL_len]
theorem execStX {x y : Operand} {g : Nat} {k u z k0 u0 z0 : Int} {f f0 : Nat → Nat} (ho : o.op = .store 33 x y) (hx : a.eval x = .pointer (some ⟨g, 0, none⟩)) (hy : a.eval y = .agg (spC k u f z)) (hg : w.heap[g]? = some (.cells (spC k0 u0 f0 z0) 33)) : (execOp a.eval o).run Try.prog w = .ok .skip (w.setRow g (spC k u f z)) := by
  have h1 : (spC k u f z).all (·.oneCell') = true := by simp [spC, spL, bytesL, Value.oneCell']
  have h := execStMid (P := Try.prog) ho hx hy hg (by rw [spC_size, spC_size]; omega) (show (Try.prog.info? 33).map (·.size) = some (spC k u f z).size from by rw [spC_size]; kernel_rfl) h1
  have e : ((spC k0 u0 f0 z0).toList.take 0 ++ (spC k u f z).toList ++ (spC k0 u0 f0 z0).toList.drop (0 + (spC k u f z).size)).toArray = spC k u f z := by
    rw [List.drop_eq_nil_of_le (by rw [Array.length_toList, spC_size, spC_size]; omega)]
    simp
  rw [e] at h
  exact h
theorem execIdxFs {x i : Operand} {b n cap k : Nat} (ho : o.op = .indexAddr 29 x i) (hx : a.eval x = .slice (some ⟨b, 0, none⟩) n cap) (hi : a.eval i = .int .i64 ((k : Nat) : Int)) (hk : k < n) : (execOp a.eval o).run Try.prog w = .ok (.value (.pointer (some ⟨b, k, none⟩))) w := by
  unfold execOp
  simp only [ho, hx, hi]
  simp [go_sem, hk]
theorem execIdxOO {x i : Operand} {b n cap k : Nat} (ho : o.op = .indexAddr 30 x i) (hx : a.eval x = .slice (some ⟨b, 0, none⟩) n cap) (hi : a.eval i = .int .i64 ((k : Nat) : Int)) (hk : k < n) : (execOp a.eval o).run Try.prog w = .ok (.value (.pointer (some ⟨b, k, none⟩))) w := by
  unfold execOp
  simp only [ho, hx, hi]
  simp [go_sem, hk]
theorem execLdFp {x : Operand} {b k : Nat} {v : Value} (ho : o.op = .load 24 x) (hx : a.eval x = .pointer (some ⟨b, k, none⟩)) (hc : w.cell? ⟨b, k, none⟩ = some v) : (execOp a.eval o).run Try.prog w = .ok (.value v) w := by
  unfold execOp
  simp only [ho, hx]
  simp [go_sem, hc]
theorem execLdOs {x : Operand} {b k : Nat} {v : Value} (ho : o.op = .load 36 x) (hx : a.eval x = .pointer (some ⟨b, k, none⟩)) (hc : w.cell? ⟨b, k, none⟩ = some v) : (execOp a.eval o).run Try.prog w = .ok (.value v) w := by
  unfold execOp
  simp only [ho, hx]
  simp [go_sem, hc]
theorem execStOs {x y : Operand} {b k : Nat} {v old : Value} (ho : o.op = .store 36 x y) (hx : a.eval x = .pointer (some ⟨b, k, none⟩)) (hy : a.eval y = v) (hv : ∃ g n c, v = .slice g n c) (hc : w.cell? ⟨b, k, none⟩ = some old) (hf : w.frozen? ⟨b, k, none⟩ = false) : (execOp a.eval o).run Try.prog w = .ok .skip (w.setCell ⟨b, k, none⟩ v) := by
  obtain ⟨g, n, c, rfl⟩ := hv
  unfold execOp
  simp only [ho, hx, hy]
  simp [go_sem, hc, hf]
theorem execNeBB {x y : Operand} {b : Bool} (ho : o.op = .binOp .neq 4 x y 4) (hx : a.eval x = .bool b) (hy : a.eval y = .bool b) : (execOp a.eval o).run Try.prog w = .ok (.value (.bool false)) w := by
  unfold execOp
  simp only [ho, hx, hy]
  simp [go_sem]
theorem execPeqF {x : Operand} {v : Value} {s : Int} (ho : o.op = .binOp .eql 24 x (.const (.pointer none)) 24) (hx : a.eval x = v) (hv : (v = .pointer none ∧ ¬ fitS s) ∨ ∃ fb, v = .pointer (some ⟨fb, 0, none⟩) ∧ fitS s) : (execOp a.eval o).run Try.prog w = .ok (.value (.bool (decide (¬ fitS s)))) w := by
  rcases hv with ⟨rfl, h⟩ | ⟨fb, rfl, h⟩
  · rw [execPeqln ho hx, decide_eq_true h]
  · rw [execPeqls ho hx, decide_eq_false (fun q => q h)]
theorem execErF {x : Operand} {s : Int} (ho : o.op = .binOp .neq 25 x (.const (.int .i64 0)) 25) (hx : a.eval x = .int .i64 ((nwE s : Nat) : Int)) : (execOp a.eval o).run Try.prog w = .ok (.value (.bool (decide (¬ fitS s)))) w := by
  have h0 : a.eval (.const (.int .i64 0)) = .int .i64 0 := rfl
  unfold nwE at hx
  by_cases h : fitS s
  · rw [if_pos h] at hx
    rw [decide_eq_false (fun q => q h)]
    unfold execOp
    simp only [ho, hx, h0]
    simp [go_sem]
  · rw [if_neg h] at hx
    rw [decide_eq_true h]
    unfold execOp
    simp only [ho, hx, h0]
    simp [go_sem]
theorem execBsF {x y z : Operand} {v0 v1 : Value} (ho : o.op = .buildSlice 29 3 #[(0, x), (1, y), (2, z)]) (hx : a.eval x = v0) (hy : a.eval y = v1) (hz : a.eval z = .pointer none) (h0 : ∃ p, v0 = .pointer p) (h1 : ∃ p, v1 = .pointer p) : (execOp a.eval o).run Try.prog w = .ok (.value (.slice (some ⟨w.heap.size, 0, none⟩) 3 3)) (w.alloc (.cells (c3 (t3 v0 v1 (.pointer none))) 24)) := by
  obtain ⟨p0, rfl⟩ := h0
  obtain ⟨p1, rfl⟩ := h1
  unfold execOp
  simp only [ho, List.map_toArray, List.map_cons, List.map_nil, hx, hy, hz]
  simp [go_sem, c3, t3]
theorem execMkOO {x y : Operand} (ho : o.op = .makeSlice 30 x y) (hx : a.eval x = .int .i64 3) (hy : a.eval y = .int .i64 3) : (execOp a.eval o).run Try.prog w = .ok (.value (.slice (some ⟨w.heap.size, 0, none⟩) 3 3)) (w.alloc (.cells (c3 (fun _ => .slice none 0 0)) 36)) := by
  have h : (Try.prog.info? 36).map (fun i => (i.zero, i.size, i.bytes)) = some (some (.slice none 0 0), 1, 24) := by kernel_rfl
  obtain ⟨i, h1, h2⟩ := Option.map_eq_some_iff.1 h
  simp only [Prod.mk.injEq] at h2
  obtain ⟨h2, h3, h4⟩ := h2
  have h := run_make (P := Try.prog) w 30 36 i _ Try.underlying30 h1 h2 .i64 .i64 3 3 (by omega) (by omega) (by rw [h4]; omega) (by omega)
  rw [h3] at h
  have e : madeCells (Value.slice none 0 0).cells (Int.toNat 3 * 1) = c3 (fun _ => .slice none 0 0) := by kernel_rfl
  rw [e] at h
  unfold execOp
  simp only [ho, hx, hy, Sem.run_bind, h, Result.andThen_ok, Sem.run_pure]
  rfl
end
def ofA (f : Nat → Nat) (z : Int) : Array Value := (bytesL 16 f ++ [Value.int .i64 z]).toArray
theorem ofA_size (f : Nat → Nat) (z : Int) : (ofA f z).size = 17 := by simp [ofA, bytesL_len]
theorem ofA_one (f : Nat → Nat) (z : Int) : (ofA f z).all (·.oneCell') = true := by simp [ofA, bytesL, Value.oneCell']
section
variable {o : Oper} {a : Act} {w : World}
theorem execBdO {x y : Operand} {f : Nat → Nat} {z : Int} (ho : o.op = .build 38 #[(0, x), (1, y)]) (hx : a.eval x = .agg (bA 16 f)) (hy : a.eval y = .int .i64 z) : (execOp a.eval o).run Try.prog w = .ok (.value (.agg (ofA f z))) w := by
  unfold execOp
  simp only [ho, List.map_toArray, List.map_cons, List.map_nil, hx, hy]
  kernel_rfl
theorem execBsO {x : Operand} {f : Nat → Nat} {z : Int} (ho : o.op = .buildSlice 36 1 #[(0, x)]) (hx : a.eval x = .agg (ofA f z)) : (execOp a.eval o).run Try.prog w = .ok (.value (.slice (some ⟨w.heap.size, 0, none⟩) 1 1)) (w.alloc (.cells (ofA f z) 38)) := by
  unfold execOp
  simp only [ho, List.map_toArray, List.map_cons, List.map_nil, hx]
  kernel_rfl
end
end Go.Proofs.Ytjoffdaknacbpaa.Sha
