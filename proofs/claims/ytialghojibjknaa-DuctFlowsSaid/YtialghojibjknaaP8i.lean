import Derived.Test.YtialghojibjknaaP8e
import Derived.WalkKit
namespace Go.Proofs.Ytialghojibjknaa.Duc
open Go.RowKit Gf8 Aes By8 Cel Cf Win Drw Prm
/- Lists of strings; a duct of strings beside what went in and what came out. Written by tools/mkP8i.py. -/

def sV (s : Nat → ByteArray) (j : Nat) : Value := .string (s j)
def strs8 (n : Nat) (s : Nat → ByteArray) : List Value := (List.range n).map (sV s)
theorem strs8_get {n j : Nat} {s : Nat → ByteArray} (h : j < n) : (strs8 n s)[j]? = some (.string (s j)) := by simp [strs8, sV, h]
theorem strs8_succ (n : Nat) (s : Nat → ByteArray) : strs8 (n + 1) s = strs8 n s ++ [.string (s n)] := by simp [strs8, sV, List.range_succ]
theorem strs8_congr {n : Nat} {s t : Nat → ByteArray} (h : ∀ j, j < n → s j = t j) : strs8 n s = strs8 n t := by
  unfold strs8
  apply List.map_congr_left
  intro i hi
  unfold sV
  rw [h i (List.mem_range.1 hi)]
/-- A list of strings that is read. -/
structure Ss8 (w : World) (v : Value) (len : Nat) (s : Nat → ByteArray) : Prop where
  shape : ∃ a cap, v = .slice a len cap ∧ (0 < len → ∃ b off, a = some ⟨b, off, none⟩ ∧ b < w.heap.size ∧ ∀ j, j < len → w.cell? ⟨b, off + j, none⟩ = some (.string (s j)))
theorem Ss8.on {w w' : World} {v : Value} {len : Nat} {s : Nat → ByteArray} (h : Ss8 w v len s) (hb : Below w.heap.size w w') : Ss8 w' v len s := by
  obtain ⟨a, cap, e, h3⟩ := h.shape
  refine ⟨⟨a, cap, e, fun h0 => ?_⟩⟩
  obtain ⟨b, off, e1, e2, e3⟩ := h3 h0
  exact ⟨b, off, e1, Nat.lt_of_lt_of_le e2 hb.size, fun j hj => by rw [cell_below hb e2]; exact e3 j hj⟩
theorem Ss8.shp {w : World} {v : Value} {len : Nat} {s : Nat → ByteArray} (h : Ss8 w v len s) : ∃ g c, v = .slice g len c := by
  obtain ⟨a, c, e, _⟩ := h.shape
  exact ⟨a, c, e⟩
theorem Ss8.at {w : World} {v : Value} {len : Nat} {s : Nat → ByteArray} (h : Ss8 w v len s) (h0 : 0 < len) : ∃ b q c, v = .slice (some ⟨b, q, none⟩) len c ∧ b < w.heap.size ∧ ∀ j, j < len → w.cell? ⟨b, q + j, none⟩ = some (.string (s j)) := by
  obtain ⟨a, c, e, h3⟩ := h.shape
  obtain ⟨b, q, e1, e2, e3⟩ := h3 h0
  exact ⟨b, q, c, by rw [e, e1], e2, e3⟩
theorem own_ss8 {W : World} {B n : Nat} {v : Value} {s : Nat → ByteArray} (h : W.ownsRow B 9 1 v n (strs8 n s)) : Ss8 W v n s := by
  rcases h.2 with ⟨rfl, rfl⟩ | ⟨g, cap, cur, rfl, _, hg, h1, h2, h3, h4⟩
  · exact ⟨⟨_, _, rfl, fun h => by omega⟩⟩
  · refine ⟨⟨_, _, rfl, fun _ => ⟨g, 0, rfl, (Array.getElem?_eq_some_iff.1 hg).1, fun j hj => ?_⟩⟩⟩
    rw [cell_of_row _ _ _ _ _ _ hg, Nat.zero_add, ← Array.getElem?_toList]
    have h5 : (cur.toList.take (n * 1))[j]? = some (.string (s j)) := by rw [h4]; exact strs8_get hj
    rw [List.getElem?_take_of_lt (by omega)] at h5
    exact h5
section
variable {o : Oper} {a : Act} {w : World}
theorem execLenS8 {x : Operand} {v : Value} {len : Nat} (ho : o.op = .call { callee := .builtin .len, args := #[x], argTypes := #[41] }) (hx : a.eval x = v) (hs : ∃ g c, v = .slice g len c) : (execOp a.eval o).run Try.prog w = .ok (.value (.int .i64 ((len : Nat) : Int))) w := by
  obtain ⟨g, c, rfl⟩ := hs
  unfold execOp
  simp only [ho, resolve, invoke, builtin, List.map_toArray, List.map_cons, List.map_nil, hx]
  simp [go_sem]
theorem execIdxS8 {x i : Operand} {b off n cap k : Nat} (ho : o.op = .indexAddr 41 x i) (hx : a.eval x = .slice (some ⟨b, off, none⟩) n cap) (hi : a.eval i = .int .i64 ((k : Nat) : Int)) (hk : k < n) : (execOp a.eval o).run Try.prog w = .ok (.value (.pointer (some ⟨b, off + k, none⟩))) w := by
  have h1 : (k : Int) < n := by omega
  unfold execOp
  simp only [ho, hx, hi]
  simp [go_sem, h1, Addr.add_mid]
theorem execLdS8 {x : Operand} {b f : Nat} {s : ByteArray} (ho : o.op = .load 9 x) (hx : a.eval x = .pointer (some ⟨b, f, none⟩)) (hc : w.cell? ⟨b, f, none⟩ = some (.string s)) : (execOp a.eval o).run Try.prog w = .ok (.value (.string s)) w := by
  unfold execOp
  simp only [ho, hx]
  simp [go_sem, hc]
theorem beq_dec18 (a b : List UInt8) : (a == b) = decide (a = b) := by
  by_cases h : a = b
  · rw [decide_eq_true h]; exact beq_iff_eq.2 h
  · rw [decide_eq_false h]; exact Bool.eq_false_iff.2 (fun q => h (beq_iff_eq.1 q))
theorem execEqS8 {x y : Operand} {s t : ByteArray} (ho : o.op = .binOp .eql 9 x y 9) (hx : a.eval x = .string s) (hy : a.eval y = .string t) : (execOp a.eval o).run Try.prog w = .ok (.value (.bool (decide (s.toList = t.toList)))) w := by
  unfold execOp
  simp only [ho, hx, hy]
  simp [go_sem]
  exact beq_dec18 _ _
theorem execNeS8 {x y : Operand} {s t : ByteArray} (ho : o.op = .binOp .neq 9 x y 9) (hx : a.eval x = .string s) (hy : a.eval y = .string t) : (execOp a.eval o).run Try.prog w = .ok (.value (.bool (decide (s.toList ≠ t.toList)))) w := by
  unfold execOp
  simp only [ho, hx, hy]
  simp [go_sem]
  exact beq_dec18 _ _
theorem execBsS8 {x : Operand} {s : ByteArray} (ho : o.op = .buildSlice 41 1 #[(0, x)]) (hx : a.eval x = .string s) : (execOp a.eval o).run Try.prog w = .ok (.value (.slice (some ⟨w.heap.size, 0, none⟩) 1 1)) (w.alloc (.cells #[.string s] 9)) := by
  unfold execOp
  simp only [ho, List.map_toArray, List.map_cons, List.map_nil, hx]
  simp [go_sem]
end
theorem infoS8 : ∃ i, Try.prog.info? 9 = some i ∧ i.zero = some (.string ByteArray.empty) ∧ i.size = 1 ∧ i.bytes = 16 := ⟨_, rfl, by kernel_rfl, by kernel_rfl, by kernel_rfl⟩
def Plc (W W' : World) (v v' : Value) (n : Nat) : Prop := (∃ b c, v = .slice (some ⟨b, 0, none⟩) n c ∧ v' = .slice (some ⟨b, 0, none⟩) (n + 1) c ∧ W.grownBy W' (some b)) ∨ (Below W.heap.size W W' ∧ ∀ k, v'.ownBlock = some k → W.heap.size ≤ k)
theorem stepAppS8 {ops : Array Oper} {Q : Exit → Act → World → Prop} {K : Act → World → Prop} {j : Nat} {o : Oper} {a : Act} {W : World} {s x : Operand} {B n g : Nat} {v : Value} {u : Nat → ByteArray} (hos : ops[j]? = some o) (hgd : Region.wanted o (yielded ops a.tmps) = true)
    (ho : o.op = .call { callee := .builtin .append, args := #[s, x], argTypes := #[41, 41] }) (hs : a.eval s = v) (hx : a.eval x = .slice (some ⟨g, 0, none⟩) 1 1) (own : W.ownsRow B 9 1 v n (strs8 n u)) (src : W.heap[g]? = some (.cells #[.string (u n)] 9)) (hn : n + 1 ≤ 8796093022208) (hB : B ≤ W.heap.size)
    (hK : ∀ v' W', W'.ownsRow B 9 1 v' (n + 1) (strs8 (n + 1) u) → Plc W W' v v' n → K (a.put o.dst v') W') : wpOp Try.prog ops Q j K a W := by
  obtain ⟨i, i1, i2, i3, i4⟩ := infoS8
  obtain ⟨v', w', hr, r1, r2⟩ := run_appG W 41 o.type 9 i (.string ByteArray.empty) 1 16 Try.underlying41 i1 i2 i3 i4 (by simp [Value.cells]) (by decide) B n 1 v (strs8 n u) [.string (u n)] own ⟨g, 0, none⟩ 1 rfl (fun j z hz => by
      match j, hz with
      | 0, hz =>
        rw [Go.WideShapes.add_plain, cell_of_row _ _ _ _ _ _ src]
        exact hz
      | j + 1, hz => cases hz) (fun z hz => by simp at hz; subst hz; rfl) (by omega) (by omega) (by omega) hB
  rw [← strs8_succ] at r1
  refine stepV hos hgd (v := v') (w' := w') ?_ (hK v' w' r1 r2)
  unfold execOp
  simp only [ho, resolve, invoke, builtin, Sem.run_bind, Sem.run_pure, Result.andThen_ok, List.map_toArray, List.map_cons, List.map_nil, hs, hx, hr]
/-- A duct of strings: u is what went in, p of it has gone in and q of it come out; the lists hold pi and qo of it. -/
structure Flw (I : ImplS) (W : World) (B : Nat) (F : Nat → Prop) (db : Nat) (iw ow : Value) (u : Nat → ByteArray) (p q pi qo K : Nat) (c : Bool) : Prop where
  dr : I.R W F (.pointer (some ⟨db, 0, none⟩)) (fun j => sV u (q + j)) (p - q) K c
  inn : W.ownsRow B 9 1 iw pi (strs8 pi u)
  out : W.ownsRow B 9 1 ow qo (strs8 qo u)
  fge : ∀ g, F g → B ≤ g
  iof : ∀ g, iw.ownBlock = some g → ¬ F g
  oof : ∀ g, ow.ownBlock = some g → ¬ F g
  dis : ∀ g, iw.ownBlock = some g → ow.ownBlock = some g → False
section
variable {I : ImplS} {W X : World} {B db p q pi qo K : Nat} {F : Nat → Prop} {iw ow : Value} {u : Nat → ByteArray} {c : Bool}
theorem Flw.on (h : Flw I W B F db iw ow u p q pi qo K c) (hb : Below W.heap.size W X) : Flw I X B F db iw ow u p q pi qo K c :=
  { h with dr := I.on h.dr hb, inn := ownD_below h.inn hb, out := ownD_below h.out hb }
theorem Flw.begin {x : Nat → Value} (hR : I.R W F (.pointer (some ⟨db, 0, none⟩)) x 0 K false) (hF : ∀ g, F g → B ≤ g) : Flw I W B F db (.slice none 0 0) (.slice none 0 0) u 0 0 0 0 K false :=
  ⟨I.cg hR (fun j hj => by omega), ⟨rfl, Or.inl ⟨rfl, rfl⟩⟩, ⟨rfl, Or.inl ⟨rfl, rfl⟩⟩, hF, (fun _ h => by cases h), (fun _ h => by cases h), (fun _ h => by cases h)⟩
/-- A call of the duct. -/
theorem Flw.dcall {p' q' : Nat} {u' : Nat → ByteArray} {c' : Bool} {F' : Nat → Prop} (h : Flw I W B F db iw ow u p q pi qo K c) (hR : I.R X F' (.pointer (some ⟨db, 0, none⟩)) (fun j => sV u' (q' + j)) (p' - q') K c') (hi : ∀ j, j < pi → u j = u' j) (ho : ∀ j, j < qo → u j = u' j) (sv : Saved F W X) (sub : ∀ g, F' g → F g ∨ W.heap.size ≤ g) (hB : B ≤ W.heap.size) : Flw I X B F' db iw ow u' p' q' pi qo K c' := by
  refine ⟨hR, ?_, ?_, fun g hg => (sub g hg).elim (h.fge g) (fun q => Nat.le_trans hB q), fun g hg hF => ?_, fun g hg hF => ?_, h.dis⟩
  · rw [← strs8_congr hi]; exact own_saved18 h.inn sv h.iof
  · rw [← strs8_congr ho]; exact own_saved18 h.out sv h.oof
  · exact (sub g hF).elim (h.iof g hg) (fun q => Nat.not_lt.2 q (h.inn.lt g hg).2)
  · exact (sub g hF).elim (h.oof g hg) (fun q => Nat.not_lt.2 q (h.out.lt g hg).2)
theorem Flw.appIn {v' : Value} (h : Flw I W B F db iw ow u p q pi qo K c) (own' : X.ownsRow B 9 1 v' (pi + 1) (strs8 (pi + 1) u)) (pl : Plc W X iw v' pi) : Flw I X B F db v' ow u p q (pi + 1) qo K c := by
  rcases pl with ⟨b, cp, e1, e2, gr⟩ | ⟨hb, hn⟩
  · have eb : iw.ownBlock = some b := by rw [e1]; rfl
    have eb' : v'.ownBlock = some b := by rw [e2]; rfl
    refine ⟨I.frame h.dr (fun g hg => gr.block g (I.lt h.dr g hg) (fun e => h.iof b eb (by cases e; exact hg))) gr.size, own', ownG h.out gr (fun g hg e => h.dis b eb (by rw [hg, e])), h.fge, fun g hg => ?_, h.oof, fun g hg ho => ?_⟩
    · rw [eb'] at hg; cases hg; exact h.iof b eb
    · rw [eb'] at hg; cases hg; exact h.dis b eb ho
  · refine ⟨I.on h.dr hb, own', ownD_below h.out hb, h.fge, fun g hg hF => Nat.not_lt.2 (hn g hg) (I.lt h.dr g hF), h.oof, fun g hg ho => Nat.not_lt.2 (hn g hg) (h.out.lt g ho).2⟩
theorem Flw.appOut {v' : Value} (h : Flw I W B F db iw ow u p q pi qo K c) (own' : X.ownsRow B 9 1 v' (qo + 1) (strs8 (qo + 1) u)) (pl : Plc W X ow v' qo) : Flw I X B F db iw v' u p q pi (qo + 1) K c := by
  rcases pl with ⟨b, cp, e1, e2, gr⟩ | ⟨hb, hn⟩
  · have eb : ow.ownBlock = some b := by rw [e1]; rfl
    have eb' : v'.ownBlock = some b := by rw [e2]; rfl
    refine ⟨I.frame h.dr (fun g hg => gr.block g (I.lt h.dr g hg) (fun e => h.oof b eb (by cases e; exact hg))) gr.size, ownG h.inn gr (fun g hg e => h.dis b (by rw [hg, e]) eb), own', h.fge, h.iof, fun g hg => ?_, fun g hi ho => ?_⟩
    · rw [eb'] at hg; cases hg; exact h.oof b eb
    · rw [eb'] at ho; cases ho; exact h.dis b hi eb
  · refine ⟨I.on h.dr hb, ownD_below h.inn hb, own', h.fge, h.iof, fun g hg hF => Nat.not_lt.2 (hn g hg) (I.lt h.dr g hF), fun g hi ho => Nat.not_lt.2 (hn g ho) (h.inn.lt g hi).2⟩
theorem app_below {V : World} {v v' : Value} {n : Nat} {t : TypeId} {s : Nat} {xs : List Value} (hb : Below V.heap.size V W) (own : W.ownsRow V.heap.size t s v n xs) (pl : Plc W X v v' n) : Below V.heap.size V X := by
  rcases pl with ⟨b, cp, e1, e2, gr⟩ | ⟨h1, hn⟩
  · exact hb.grown gr hb.size (fun k hk => (own.lt k (by rw [e1]; exact hk)).1)
  · exact hb.trans (h1.mono hb.size)
end
end Go.Proofs.Ytialghojibjknaa.Duc
