import Derived.Test.YtnfokemikcigbaaK8g
import Derived.Test.YtnfokemikcigbaaK8i
import Derived.Maps.AppendAt
namespace Go.Proofs.Ytnfokemikcigbaa.Ord
open Go.RowKit Gf8 Aes By8 Cel Cf Win Drw Prm
open Go.ChangeMaps Go.MapKept
/- One call of a buffer, beside the document's. Written by tools/mkK8j.py. -/

/-- The cells of three books. -/
def b3 (r : Nat → Value) (n : Nat → Nat) : Array Value := #[r 0, .int .i64 ((n 0 : Nat) : Int), r 1, .int .i64 ((n 1 : Nat) : Int), r 2, .int .i64 ((n 2 : Nat) : Int)]
theorem lt3 {m : Nat} (h : m < 3) : m = 0 ∨ m = 1 ∨ m = 2 := by omega
section
variable {W : World} {g m : Nat} {r : Nat → Value} {n : Nat → Nat} {t : TypeId}
theorem b3_at (h : W.heap[g]? = some (.cells (b3 r n) t)) (hm : m < 3) : W.cell? ⟨g, m * 2, none⟩ = some (r m) ∧ W.cell? ⟨g, m * 2 + 1, none⟩ = some (.int .i64 ((n m : Nat) : Int)) := by
  rcases lt3 hm with rfl | rfl | rfl <;> exact ⟨by rw [cell_of_row _ _ _ _ _ _ h]; rfl, by rw [cell_of_row _ _ _ _ _ _ h]; rfl⟩
theorem b3_set0 (h : W.heap[g]? = some (.cells (b3 r n) t)) (hm : m < 3) (u : Value) : (W.setCell ⟨g, m * 2, none⟩ u).heap[g]? = some (.cells (b3 (up r m u) n) t) := by
  rcases lt3 hm with rfl | rfl | rfl <;> exact heap4 _ h
theorem b3_set1 (h : W.heap[g]? = some (.cells (b3 r n) t)) (hm : m < 3) (k : Nat) : (W.setCell ⟨g, m * 2 + 1, none⟩ (.int .i64 ((k : Nat) : Int))).heap[g]? = some (.cells (b3 r (up n m k)) t) := by
  rcases lt3 hm with rfl | rfl | rfl <;> exact heap4 _ h
end
section
variable {F G : Nat → Prop} {U V X Y : World}
theorem sv_then2 (h : Saved G V X) (b : Saved F X Y) (hFG : ∀ q, F q → G q ∨ V.heap.size ≤ q) : Saved G V Y :=
  ⟨b.os.trans h.os, b.tape.trans h.tape, b.output.trans h.output, Nat.le_trans h.size b.size, fun k hk hG => by rw [b.block k (Nat.lt_of_lt_of_le hk h.size) (fun w => (hFG k w).elim hG (fun w => by omega)), h.block k hk hG]⟩
theorem own_sv {B t s n : Nat} {v : Value} {xs : List Value} (h : X.ownsRow B t s v n xs) (hs : Saved F X Y) (hn : ∀ g, v.ownBlock = some g → ¬ F g) : Y.ownsRow B t s v n xs := by
  refine ⟨h.1, ?_⟩
  rcases h.2 with h2 | ⟨g, cap, cur, e, h1, hg, h3⟩
  · exact Or.inl h2
  · exact Or.inr ⟨g, cap, cur, e, h1, bk_saved hg hs (hn g (by rw [e]; rfl)), h3⟩
theorem own_slq {W : World} {B n : Nat} {v : Value} {xs : List Value} {t : TypeId} {s : Nat} (h : W.ownsRow B t s v n xs) : ∃ g m c, v = .slice g m c := by
  rcases h.2 with ⟨rfl, rfl⟩ | ⟨g, cap, cur, rfl, _⟩
  · exact ⟨_, _, _, rfl⟩
  · exact ⟨_, _, _, rfl⟩
theorem own_shp {W : World} {B n : Nat} {v : Value} {xs : List Value} {t : TypeId} {s : Nat} (h : W.ownsRow B t s v n xs) : ∃ ao c, v = .slice ao n c := by
  rcases h.2 with ⟨rfl, rfl⟩ | ⟨g, cap, cur, rfl, _⟩
  · exact ⟨_, _, rfl⟩
  · exact ⟨_, _, rfl⟩
theorem grC20 {W : World} {g k : Nat} {u : Value} : W.grownBy (W.setCell ⟨g, k, none⟩ u) (some g) := by
  have hb : Below g W (W.setCell ⟨g, k, none⟩ u) := (Below.refl _ _).setCell (p := ⟨g, k, none⟩) (Nat.le_refl _) u
  refine ⟨hb.os, hb.tape, hb.output, hb.size, fun b hbs hne => ?_⟩
  have hn : b ≠ g := fun e => hne (by rw [e])
  simp [World.setCell, Array.getElem?_modify, hn.symm]
theorem br_gr {T : TypeId} {v : Value} {S : Its} {n : Nat} {row : Option Nat} (h : BR T X F v S n) (gr : X.grownBy Y row) (hn : ∀ g, row = some g → ¬ F g) : BR T Y F v S n :=
  h.frame (fun b hb => gr.block b (h.lt b hb) (fun e => hn b e.symm hb)) gr.size
end
section
variable {o : Oper} {a : Act} {w : World}
theorem execBxX {x : Operand} {k b i z : Int} (ho : o.op = .box 29 x) (hx : a.eval x = .agg (xC k b i z)) : (execOp a.eval o).run Try.prog w = .ok (.value (.pointer (some ⟨w.heap.size, 0, none⟩))) (w.alloc (.cells (xC k b i z) 29)) := by
  unfold execOp
  simp only [ho, hx]
  simp [go_sem]
theorem execNeBB20 {x y : Operand} {b : Bool} (ho : o.op = .binOp .neq 4 x y 4) (hx : a.eval x = .bool b) (hy : a.eval y = .bool b) : (execOp a.eval o).run Try.prog w = .ok (.value (.bool false)) w := by
  unfold execOp
  simp only [ho, hx, hy]
  simp [go_sem]
end
theorem xC_at {W : World} {g : Nat} {k b i x : Int} {t : TypeId} (h : W.heap[g]? = some (.cells (xC k b i x) t)) : W.cell? ⟨g, 0, none⟩ = some (.int .i64 k) ∧ W.cell? ⟨g, 1, none⟩ = some (.int .i64 b) ∧ W.cell? ⟨g, 2, none⟩ = some (.int .i64 i) ∧ W.cell? ⟨g, 3, none⟩ = some (.int .i64 x) :=
  ⟨by rw [cell_of_row _ _ _ _ _ _ h]; rfl, by rw [cell_of_row _ _ _ _ _ _ h]; rfl, by rw [cell_of_row _ _ _ _ _ _ h]; rfl, by rw [cell_of_row _ _ _ _ _ _ h]; rfl⟩
/-- append of a pair, with the place of the answer. -/
theorem stepApp20P {ops : Array Oper} {Q : Exit → Act → World → Prop} {K : Act → World → Prop} {k : Nat} {o : Oper} {a : Act} {W : World} {s x : Operand} {B n g : Nat} {v : Value} {p q : Nat → Int} {T E : TypeId} (hos : ops[k]? = some o) (hgd : Region.wanted o (yielded ops a.tmps) = true)
    (ho : o.op = .call { callee := .builtin .append, args := #[s, x], argTypes := #[T, T] }) (hs : a.eval s = v) (hx : a.eval x = .slice (some ⟨g, 0, none⟩) 1 1) (hT : Try.prog.underlying T = some (.slice E)) (hE : ∃ i, Try.prog.info? E = some i ∧ i.zero = some (.agg (fC 0 0)) ∧ i.size = 2 ∧ i.bytes = 16)
    (hown : W.ownsRow B E 2 v n (pL n p q)) (hg : W.heap[g]? = some (.cells (fC (p n) (q n)) E)) (hn : n + 1 ≤ 8796093022208) (hB : B ≤ W.heap.size)
    (hK : ∀ v' W', W'.ownsRow B E 2 v' (n + 1) (pL (n + 1) p q) → W.grownBy W' v.ownBlock → (∀ b, v'.ownBlock = some b → v.ownBlock = some b ∨ W.heap.size ≤ b) → K (a.put o.dst v') W') : wpOp Try.prog ops Q k K a W := by
  obtain ⟨i, i1, i2, i3, i4⟩ := hE
  obtain ⟨v', W', run, q1, q2, -, q4⟩ := run_append_own_at (P := Try.prog) W B T o.type E i _ 2 16 hT i1 i2 i3 i4 (by simp [Value.cells, fC]) (by decide) v n _ hown ⟨g, 0, none⟩ 1 1 [.int .i64 (p n), .int .i64 (q n)] rfl (fun j u hu => by
    rw [Go.WideShapes.add_plain, cell_of_row _ _ _ _ _ _ hg, Nat.zero_add]
    exact (List.getElem?_toArray ..).trans hu) (fun u hu => by
      simp only [List.mem_cons, List.not_mem_nil, or_false] at hu
      rcases hu with rfl | rfl <;> rfl) (by unfold maxLen; omega) (by omega) hB
  rw [pL_succ] at q1
  refine stepV hos hgd ?_ (hK v' W' q1 q2 (fun b hb => q4.elim (fun e => Or.inl (e ▸ hb)) (fun e => Or.inr (by rw [e] at hb; cases hb; exact Nat.le_refl _))))
  unfold execOp
  simp only [ho, resolve, invoke, builtin, Sem.run_bind, Sem.run_pure, Result.andThen_ok, List.map_toArray, List.map_cons, List.map_nil, hs, hx, run]
abbrev Gm (F : Nat → Prop) (kb : Nat) (u : Value) (b : Nat) : Prop := F b ∨ b = kb ∨ u.ownBlock = some b
/-- What one call, beside the document's, leaves. -/
def Plyd (U V : World) (F : Nat → Prop) (v : Value) (kb m : Nat) (r : Nat → Value) (nn : Nat → Nat) (l : Nat) (e : Ending) (w' : World) : Prop :=
  ∃ F' r' p' q' l' n' S', e = .returned (.bool true) ∧ BR 66 w' F' v S' n' ∧ w'.heap[kb]? = some (.cells (b3 (up r m r') (up nn m n')) 35) ∧ w'.ownsRow U.heap.size 69 2 r' l' (pL l' p' q') ∧ Bk p' q' l' n' S' ∧ l' ≤ l + 1 ∧ (∀ g, r'.ownBlock = some g → ¬ F' g) ∧ (∀ g, r'.ownBlock = some g → (r m).ownBlock = some g ∨ V.heap.size ≤ g) ∧ (∀ q, F' q → F q ∨ V.heap.size ≤ q) ∧ Saved (Gm F kb (r m)) V w'
theorem up_self {α : Type} (f : Nat → α) (m : Nat) : up f m (f m) = f := funext fun j => by
  by_cases e : j = m
  · rw [e, up_at]
  · rw [up_ne _ _ e]
set_option maxRecDepth 100000 in
set_option maxHeartbeats 4000000 in
/-- played. -/
theorem ply_a (v : Value) (F : Nat → Prop) (kb m : Nat) (r : Nat → Value) (nn : Nat → Nat) (p q : Nat → Int) (l : Nat) (S : Its) (kd wh i x : Int) (U V : World) (hUV : Below U.heap.size U V) (hR : BR 66 V F v S (nn m)) (hK : V.heap[kb]? = some (.cells (b3 r nn) 35)) (hm : m < 3) (own : V.ownsRow U.heap.size 69 2 (r m) l (pL l p q)) (hB : Bk p q l (nn m) S) (hl : l ≤ 4398046511104) (hr : ∀ g, (r m).ownBlock = some g → ¬ F g) (hk0 : kd = 0) (h0 : i < 0) :
    Calls Try.prog 10 #[v, .pointer (some ⟨kb, m * 2, none⟩), .agg (xC kd wh i x), .bool false] V fun e w' => Plyd U V F v kb m r nn l e w' ∧ Below U.heap.size U w' := by
  have hn0 := hB.len
  go_enter Try.func10, Try.ntmps10
  refine wo_ 107 [(0, v), (1, .pointer (some ⟨kb, m * 2, none⟩)), (2, .agg (xC kd wh i x)), (3, .bool false)] ?_
  rintro a A ⟨t0, t1, t2, t3, -⟩
  have BB := hUV
  have FK := hK
  have FR := hR
  have FO := own
  have FXs := Saved.refl (Gm F kb (r m)) V
  refine wp_seq ?_
  obtain ⟨g6, egg6⟩ : ∃ z_ : Nat, V.heap.size = z_ := ⟨_, rfl⟩
  refine wi_ A (h4_ t0 t1 t2 t3) (rs_ 0 (fun a ee => ?_))
  refine stepV rfl rfl (execBxX rfl (ee _)) ⟨.pointer (some ⟨g6, 0, none⟩), ⟨_, rfl, by subst egg6; rfl⟩, fun X0 hX => ?_⟩
  have bQ : Below V.heap.size V X0 := by subst hX egg6; exact (belNew V _)
  have Fg6 : (X0.heap[g6]? = some (.cells (xC kd wh i x) 29)) := by subst hX egg6; exact heapNew V _
  have Fo6 : (¬ F g6) := by subst hX egg6; exact fun h => Nat.lt_irrefl _ (FR.lt _ h)
  replace FR := (FR.on bQ)
  replace FK := (on9 FK bQ)
  replace FO := (ownD_below FO bQ)
  replace FXs := (sv_on FXs bQ)
  replace BB := BB.trans (bQ.mono BB.size)
  clear bQ hX egg6 ee a
  refine rf_ [(6, .pointer (some ⟨g6, 0, none⟩))] (h3_ t0 t1 t3) ?_
  rintro a A ⟨t6, -⟩ ⟨t0, t1, t3, -⟩
  refine wp_seq ?_
  refine wp_seq ?_
  refine wi_ A (h4_ t0 t1 t3 t6) (rv_ 0 (.pointer (some ⟨g6, 0, none⟩)) (fun a ee => execFzX0 rfl (ee _)) (rv_ 1 (.int .i64 kd) (fun a ee => execL20 rfl (Or.inl rfl) (ee _) (xC_at Fg6).1) (rf_ [(15, .int .i64 kd)] (h4_ t0 t1 t3 t6) ?_)))
  rintro a A ⟨t15, -⟩ ⟨t0, t1, t3, t6, -⟩
  refine wp_block ?_
  refine wp_seq ?_
  refine wi_ A (h5_ t0 t1 t3 t6 t15) (rv_ 0 (.bool true) (fun a ee => execDec (exIeql3 (p := kd) (q := 0) rfl (ee _) rfl) (decide_eq_true hk0)) (rf_ [(16, .bool true)] (h5_ t0 t1 t3 t6 t15) ?_))
  rintro a A ⟨t16, -⟩ ⟨t0, t1, t3, t6, t15, -⟩
  refine wp_cond_true t16 ?_
  clear t16
  refine wp_seq ?_
  refine wj_ [0, 1, 2, 3, 4, 5, 6, 7] [6] [3, 5] [] A (h5_ t0 t1 t3 t6 t15) (fun X3_0 bD => ?_)
  refine dw_ 1 (.pointer (some ⟨kb, m * 2, none⟩)) (fun a X ee => execNl20 rfl (ee _)) (dw_ 2 (.pointer (some ⟨kb, m * 2, none⟩)) (fun a X ee => execFqK0 rfl (ee _)) (dv_ 3 (r m) (fun a X ee hb => execL20 rfl (Or.inr (Or.inr (Or.inr (Or.inr (Or.inl rfl))))) (ee _) (b3_at (on9 FK hb) hm).1) (dw_ 4 (.pointer (some ⟨g6, 2, none⟩)) (fun a X ee => execFzX2 rfl (ee _)) (dv_ 5 (.int .i64 i) (fun a X ee hb => execL20 rfl (Or.inl rfl) (ee _) (xC_at (on9 Fg6 hb)).2.2.1) (dc_ 6 (radd_a _ i X3_0 h0) (cb_ fun X3 bQ => ?_))))))
  replace bD := bD.trans (bQ.mono bD.size)
  clear bQ
  refine ⟨Or.inr bD, ?_⟩
  refine dz_ [(9, .int .i64 ((2 : Nat) : Int))] (h4_ t0 t1 t3 t6) ?_
  rintro a A ⟨t9, -⟩ ⟨t0, t1, t3, t6, -⟩
  replace FR := (FR.on bD)
  replace FK := (on9 FK bD)
  replace FO := (ownD_below FO bD)
  replace FXs := (sv_on FXs bD)
  replace Fg6 := (on9 Fg6 bD)
  replace BB := BB.trans (bD.mono BB.size)
  clear bD
  refine wp_seq ?_
  refine wp_seq ?_
  refine wi_ A (h5_ t0 t1 t3 t6 t9) (rf_ [(25, .bool false)] (h5_ t0 t1 t3 t6 t9) ?_)
  rintro a A ⟨t25, -⟩ ⟨t0, t1, t3, t6, t9, -⟩
  refine wp_cond_false t25 ?_
  refine wp_skip ?_
  clear t25
  refine wp_seq ?_
  refine wp_seq ?_
  refine wi_ A (h5_ t0 t1 t3 t6 t9) (rv_ 1 (.pointer (some ⟨g6, 2, none⟩)) (fun a ee => execFzX2 rfl (ee _)) (rv_ 2 (.int .i64 i) (fun a ee => execL20 rfl (Or.inl rfl) (ee _) (xC_at Fg6).2.2.1) (rv_ 3 (.pointer (some ⟨g6, 3, none⟩)) (fun a ee => execFzX3 rfl (ee _)) (rv_ 4 (.int .i64 x) (fun a ee => execL20 rfl (Or.inl rfl) (ee _) (xC_at Fg6).2.2.2) (rc_ 5 (pput_xI FR (.int .i64 x) h0) (cb_ fun X6 bQ => ?_))))))
  replace FR := (FR.on bQ)
  replace FK := (on9 FK bQ)
  replace FO := (ownD_below FO bQ)
  replace FXs := (sv_on FXs bQ)
  replace Fg6 := (on9 Fg6 bQ)
  replace BB := BB.trans (bQ.mono BB.size)
  clear bQ
  refine rv_ 7 (.bool false) (fun a ee => execDec (exIneq3 (p := ((2 : Nat) : Int)) (q := ((2 : Nat) : Int)) rfl (ee _) (ee _)) (decide_eq_false (fun h => h rfl))) (rf_ [(33, .bool false)] (h5_ t0 t1 t3 t6 t9) ?_)
  rintro a A ⟨t33, -⟩ ⟨t0, t1, t3, t6, t9, -⟩
  refine wp_cond_false t33 ?_
  refine wp_skip ?_
  clear t33
  refine wp_seq ?_
  refine wi_ A (h5_ t0 t1 t3 t6 t9) (rv_ 1 (.bool false) (fun a ee => execDec (exIeql3 (p := ((2 : Nat) : Int)) (q := 0) rfl (ee _) rfl) (decide_eq_false (by decide))) (rf_ [(35, .bool false)] (h4_ t0 t1 t3 t6) ?_))
  rintro a A ⟨t35, -⟩ ⟨t0, t1, t3, t6, -⟩
  refine wp_cond_false t35 ?_
  refine wp_skip ?_
  have hL2 := hB.len
  refine wp_seq ?_
  refine wj_ [0, 2, 3, 4, 5, 1, 6, 7, 8, 10, 11, 12, 13, 14, 15, 16, 17, 18, 19, 9, 20, 21, 22] [1, 9] [5, 13, 14, 18] [] A (h4_ t0 t1 t3 t6) (fun X17_0 bD => ?_)
  refine dw_ 3 (.pointer (some ⟨kb, m * 2, none⟩)) (fun a X ee => execNl20 rfl (ee _)) (dw_ 4 (.pointer (some ⟨kb, m * 2 + 1, none⟩)) (fun a X ee => execFqK1 rfl (ee _)) (dv_ 5 (.int .i64 ((nn m : Nat) : Int)) (fun a X ee hb => execL20 rfl (Or.inl rfl) (ee _) (b3_at (on9 FK hb) hm).2) (dc_ 1 (patI (FR.on bD)) (cb_ fun X17_1 bQ => ?_))))
  replace bD := bD.trans (bQ.mono bD.size)
  clear bQ
  refine ⟨Or.inr bD, ?_⟩
  refine dw_ 6 (.bool true) (fun a X ee => execDec (exIeql3 (p := ((nn m : Nat) : Int)) (q := ((nn m : Nat) : Int)) rfl (ee _) (ee _)) (decide_eq_true rfl)) (dw_ 11 (.pointer (some ⟨kb, m * 2, none⟩)) (fun a X ee => execNl20 rfl (ee _)) (dw_ 12 (.pointer (some ⟨kb, m * 2, none⟩)) (fun a X ee => execFqK0 rfl (ee _)) (dv_ 13 (r m) (fun a X ee hb => execL20 rfl (Or.inr (Or.inr (Or.inr (Or.inr (Or.inl rfl))))) (ee _) (b3_at (on9 FK hb) hm).1) (dv_ 14 (.int .i64 ((l : Nat) : Int)) (fun a X ee hb => execLnP (len := l) rfl (Or.inl rfl) (ee _) (own_shp (ownD_below FO hb))) (dw_ 16 (.pointer (some ⟨kb, m * 2, none⟩)) (fun a X ee => execNl20 rfl (ee _)) (dw_ 17 (.pointer (some ⟨kb, m * 2 + 1, none⟩)) (fun a X ee => execFqK1 rfl (ee _)) (dv_ 18 (.int .i64 ((nn m : Nat) : Int)) (fun a X ee hb => execL20 rfl (Or.inl rfl) (ee _) (b3_at (on9 FK hb) hm).2) (dw_ 19 (.int .i64 ((l - (nn m) : Nat) : Int)) (fun a X ee => By8.execSubI (p := l) (q := nn m) rfl (ee _) (ee _) (by omega) (by omega)) (dc_ 9 (pheldI (FR.on bD)) (cb_ fun X17 bQ => ?_))))))))))
  replace bD := bD.trans (bQ.mono bD.size)
  clear bQ
  refine ⟨Or.inr bD, ?_⟩
  refine dw_ 20 (.bool true) (fun a X ee => execDec (exIeql3 (p := ((S.length : Nat) : Int)) (q := ((l - (nn m) : Nat) : Int)) rfl (ee _) (ee _)) (decide_eq_true (by omega))) (dy_ [(8, .bool true)] ?_)
  rintro a A ⟨t8, -⟩
  replace FR := (FR.on bD)
  replace FK := (on9 FK bD)
  replace FO := (ownD_below FO bD)
  replace FXs := (sv_on FXs bD)
  replace Fg6 := (on9 Fg6 bD)
  replace BB := BB.trans (bD.mono BB.size)
  clear bD
  refine wp_ret ?_
  refine bodyPost_ret (results_tmp rfl _ _ _) A.2 ⟨⟨F, (r m), _, _, _, (nn m), S, ?_, FR, (by rw [up_self nn m, up_self r m]; exact FK), FO, hB, by omega, hr, fun g hg => Or.inl hg, fun q hq => Or.inl hq, FXs⟩, BB⟩
  show Ending.returned (a.eval (.tmp 8)) = _
  rw [t8]
set_option maxRecDepth 100000 in
set_option maxHeartbeats 4000000 in
/-- played. -/
theorem ply_t (v : Value) (F : Nat → Prop) (kb m : Nat) (r : Nat → Value) (nn : Nat → Nat) (p q : Nat → Int) (l : Nat) (S : Its) (kd wh i x : Int) (U V : World) (hUV : Below U.heap.size U V) (hR : BR 66 V F v S (nn m)) (hK : V.heap[kb]? = some (.cells (b3 r nn) 35)) (hm : m < 3) (own : V.ownsRow U.heap.size 69 2 (r m) l (pL l p q)) (hB : Bk p q l (nn m) S) (hl : l ≤ 4398046511104) (hr : ∀ g, (r m).ownBlock = some g → ¬ F g) (hi : I64 i) (hk0 : kd = 0) (h0 : ¬ i < 0) (j : Nat) (hjl : j < l) (hj : p j = i) :
    Calls Try.prog 10 #[v, .pointer (some ⟨kb, m * 2, none⟩), .agg (xC kd wh i x), .bool false] V fun e w' => Plyd U V F v kb m r nn l e w' ∧ Below U.heap.size U w' := by
  have hn0 := hB.len
  go_enter Try.func10, Try.ntmps10
  refine wo_ 107 [(0, v), (1, .pointer (some ⟨kb, m * 2, none⟩)), (2, .agg (xC kd wh i x)), (3, .bool false)] ?_
  rintro a A ⟨t0, t1, t2, t3, -⟩
  have BB := hUV
  have FK := hK
  have FR := hR
  have FO := own
  have FXs := Saved.refl (Gm F kb (r m)) V
  refine wp_seq ?_
  obtain ⟨g6, egg6⟩ : ∃ z_ : Nat, V.heap.size = z_ := ⟨_, rfl⟩
  refine wi_ A (h4_ t0 t1 t2 t3) (rs_ 0 (fun a ee => ?_))
  refine stepV rfl rfl (execBxX rfl (ee _)) ⟨.pointer (some ⟨g6, 0, none⟩), ⟨_, rfl, by subst egg6; rfl⟩, fun X0 hX => ?_⟩
  have bQ : Below V.heap.size V X0 := by subst hX egg6; exact (belNew V _)
  have Fg6 : (X0.heap[g6]? = some (.cells (xC kd wh i x) 29)) := by subst hX egg6; exact heapNew V _
  have Fo6 : (¬ F g6) := by subst hX egg6; exact fun h => Nat.lt_irrefl _ (FR.lt _ h)
  replace FR := (FR.on bQ)
  replace FK := (on9 FK bQ)
  replace FO := (ownD_below FO bQ)
  replace FXs := (sv_on FXs bQ)
  replace BB := BB.trans (bQ.mono BB.size)
  clear bQ hX egg6 ee a
  refine rf_ [(6, .pointer (some ⟨g6, 0, none⟩))] (h3_ t0 t1 t3) ?_
  rintro a A ⟨t6, -⟩ ⟨t0, t1, t3, -⟩
  refine wp_seq ?_
  refine wp_seq ?_
  refine wi_ A (h4_ t0 t1 t3 t6) (rv_ 0 (.pointer (some ⟨g6, 0, none⟩)) (fun a ee => execFzX0 rfl (ee _)) (rv_ 1 (.int .i64 kd) (fun a ee => execL20 rfl (Or.inl rfl) (ee _) (xC_at Fg6).1) (rf_ [(15, .int .i64 kd)] (h4_ t0 t1 t3 t6) ?_)))
  rintro a A ⟨t15, -⟩ ⟨t0, t1, t3, t6, -⟩
  refine wp_block ?_
  refine wp_seq ?_
  refine wi_ A (h5_ t0 t1 t3 t6 t15) (rv_ 0 (.bool true) (fun a ee => execDec (exIeql3 (p := kd) (q := 0) rfl (ee _) rfl) (decide_eq_true hk0)) (rf_ [(16, .bool true)] (h5_ t0 t1 t3 t6 t15) ?_))
  rintro a A ⟨t16, -⟩ ⟨t0, t1, t3, t6, t15, -⟩
  refine wp_cond_true t16 ?_
  clear t16
  refine wp_seq ?_
  refine wj_ [0, 1, 2, 3, 4, 5, 6, 7] [6] [3, 5] [] A (h5_ t0 t1 t3 t6 t15) (fun X3_0 bD => ?_)
  refine dw_ 1 (.pointer (some ⟨kb, m * 2, none⟩)) (fun a X ee => execNl20 rfl (ee _)) (dw_ 2 (.pointer (some ⟨kb, m * 2, none⟩)) (fun a X ee => execFqK0 rfl (ee _)) (dv_ 3 (r m) (fun a X ee hb => execL20 rfl (Or.inr (Or.inr (Or.inr (Or.inr (Or.inl rfl))))) (ee _) (b3_at (on9 FK hb) hm).1) (dw_ 4 (.pointer (some ⟨g6, 2, none⟩)) (fun a X ee => execFzX2 rfl (ee _)) (dv_ 5 (.int .i64 i) (fun a X ee hb => execL20 rfl (Or.inl rfl) (ee _) (xC_at (on9 Fg6 hb)).2.2.1) (dc_ 6 (radd_t _ l p q i X3_0 (own_pairs (ownD_below FO bD)) h0 j hjl hj hB.inj (by omega)) (cb_ fun X3 bQ => ?_))))))
  replace bD := bD.trans (bQ.mono bD.size)
  clear bQ
  refine ⟨Or.inr bD, ?_⟩
  refine dz_ [(9, .int .i64 ((200 : Nat) : Int))] (h4_ t0 t1 t3 t6) ?_
  rintro a A ⟨t9, -⟩ ⟨t0, t1, t3, t6, -⟩
  replace FR := (FR.on bD)
  replace FK := (on9 FK bD)
  replace FO := (ownD_below FO bD)
  replace FXs := (sv_on FXs bD)
  replace Fg6 := (on9 Fg6 bD)
  replace BB := BB.trans (bD.mono BB.size)
  clear bD
  refine wp_seq ?_
  refine wp_seq ?_
  refine wi_ A (h5_ t0 t1 t3 t6 t9) (rf_ [(25, .bool false)] (h5_ t0 t1 t3 t6 t9) ?_)
  rintro a A ⟨t25, -⟩ ⟨t0, t1, t3, t6, t9, -⟩
  refine wp_cond_false t25 ?_
  refine wp_skip ?_
  clear t25
  refine wp_seq ?_
  refine wp_seq ?_
  refine wi_ A (h5_ t0 t1 t3 t6 t9) (rv_ 1 (.pointer (some ⟨g6, 2, none⟩)) (fun a ee => execFzX2 rfl (ee _)) (rv_ 2 (.int .i64 i) (fun a ee => execL20 rfl (Or.inl rfl) (ee _) (xC_at Fg6).2.2.1) (rv_ 3 (.pointer (some ⟨g6, 3, none⟩)) (fun a ee => execFzX3 rfl (ee _)) (rv_ 4 (.int .i64 x) (fun a ee => execL20 rfl (Or.inl rfl) (ee _) (xC_at Fg6).2.2.2) (rc_ 5 (pput_wI FR (.int .i64 x) hi h0 ((hB.twice (by omega)).2 ⟨j, hjl, hj⟩)) (cb_ fun X6 bQ => ?_))))))
  replace FR := (FR.on bQ)
  replace FK := (on9 FK bQ)
  replace FO := (ownD_below FO bQ)
  replace FXs := (sv_on FXs bQ)
  replace Fg6 := (on9 Fg6 bQ)
  replace BB := BB.trans (bQ.mono BB.size)
  clear bQ
  refine rv_ 7 (.bool false) (fun a ee => execDec (exIneq3 (p := ((200 : Nat) : Int)) (q := ((200 : Nat) : Int)) rfl (ee _) (ee _)) (decide_eq_false (fun h => h rfl))) (rf_ [(33, .bool false)] (h5_ t0 t1 t3 t6 t9) ?_)
  rintro a A ⟨t33, -⟩ ⟨t0, t1, t3, t6, t9, -⟩
  refine wp_cond_false t33 ?_
  refine wp_skip ?_
  clear t33
  refine wp_seq ?_
  refine wi_ A (h5_ t0 t1 t3 t6 t9) (rv_ 1 (.bool false) (fun a ee => execDec (exIeql3 (p := ((200 : Nat) : Int)) (q := 0) rfl (ee _) rfl) (decide_eq_false (by decide))) (rf_ [(35, .bool false)] (h4_ t0 t1 t3 t6) ?_))
  rintro a A ⟨t35, -⟩ ⟨t0, t1, t3, t6, -⟩
  refine wp_cond_false t35 ?_
  refine wp_skip ?_
  have hL2 := hB.len
  refine wp_seq ?_
  refine wj_ [0, 2, 3, 4, 5, 1, 6, 7, 8, 10, 11, 12, 13, 14, 15, 16, 17, 18, 19, 9, 20, 21, 22] [1, 9] [5, 13, 14, 18] [] A (h4_ t0 t1 t3 t6) (fun X17_0 bD => ?_)
  refine dw_ 3 (.pointer (some ⟨kb, m * 2, none⟩)) (fun a X ee => execNl20 rfl (ee _)) (dw_ 4 (.pointer (some ⟨kb, m * 2 + 1, none⟩)) (fun a X ee => execFqK1 rfl (ee _)) (dv_ 5 (.int .i64 ((nn m : Nat) : Int)) (fun a X ee hb => execL20 rfl (Or.inl rfl) (ee _) (b3_at (on9 FK hb) hm).2) (dc_ 1 (patI (FR.on bD)) (cb_ fun X17_1 bQ => ?_))))
  replace bD := bD.trans (bQ.mono bD.size)
  clear bQ
  refine ⟨Or.inr bD, ?_⟩
  refine dw_ 6 (.bool true) (fun a X ee => execDec (exIeql3 (p := ((nn m : Nat) : Int)) (q := ((nn m : Nat) : Int)) rfl (ee _) (ee _)) (decide_eq_true rfl)) (dw_ 11 (.pointer (some ⟨kb, m * 2, none⟩)) (fun a X ee => execNl20 rfl (ee _)) (dw_ 12 (.pointer (some ⟨kb, m * 2, none⟩)) (fun a X ee => execFqK0 rfl (ee _)) (dv_ 13 (r m) (fun a X ee hb => execL20 rfl (Or.inr (Or.inr (Or.inr (Or.inr (Or.inl rfl))))) (ee _) (b3_at (on9 FK hb) hm).1) (dv_ 14 (.int .i64 ((l : Nat) : Int)) (fun a X ee hb => execLnP (len := l) rfl (Or.inl rfl) (ee _) (own_shp (ownD_below FO hb))) (dw_ 16 (.pointer (some ⟨kb, m * 2, none⟩)) (fun a X ee => execNl20 rfl (ee _)) (dw_ 17 (.pointer (some ⟨kb, m * 2 + 1, none⟩)) (fun a X ee => execFqK1 rfl (ee _)) (dv_ 18 (.int .i64 ((nn m : Nat) : Int)) (fun a X ee hb => execL20 rfl (Or.inl rfl) (ee _) (b3_at (on9 FK hb) hm).2) (dw_ 19 (.int .i64 ((l - (nn m) : Nat) : Int)) (fun a X ee => By8.execSubI (p := l) (q := nn m) rfl (ee _) (ee _) (by omega) (by omega)) (dc_ 9 (pheldI (FR.on bD)) (cb_ fun X17 bQ => ?_))))))))))
  replace bD := bD.trans (bQ.mono bD.size)
  clear bQ
  refine ⟨Or.inr bD, ?_⟩
  refine dw_ 20 (.bool true) (fun a X ee => execDec (exIeql3 (p := ((S.length : Nat) : Int)) (q := ((l - (nn m) : Nat) : Int)) rfl (ee _) (ee _)) (decide_eq_true (by omega))) (dy_ [(8, .bool true)] ?_)
  rintro a A ⟨t8, -⟩
  replace FR := (FR.on bD)
  replace FK := (on9 FK bD)
  replace FO := (ownD_below FO bD)
  replace FXs := (sv_on FXs bD)
  replace Fg6 := (on9 Fg6 bD)
  replace BB := BB.trans (bD.mono BB.size)
  clear bD
  refine wp_ret ?_
  refine bodyPost_ret (results_tmp rfl _ _ _) A.2 ⟨⟨F, (r m), _, _, _, (nn m), S, ?_, FR, (by rw [up_self nn m, up_self r m]; exact FK), FO, hB, by omega, hr, fun g hg => Or.inl hg, fun q hq => Or.inl hq, FXs⟩, BB⟩
  show Ending.returned (a.eval (.tmp 8)) = _
  rw [t8]
set_option maxRecDepth 100000 in
set_option maxHeartbeats 4000000 in
/-- played. -/
theorem ply_o (v : Value) (F : Nat → Prop) (kb m : Nat) (r : Nat → Value) (nn : Nat → Nat) (p q : Nat → Int) (l : Nat) (S : Its) (kd wh i x : Int) (U V : World) (hUV : Below U.heap.size U V) (hR : BR 66 V F v S (nn m)) (hK : V.heap[kb]? = some (.cells (b3 r nn) 35)) (hm : m < 3) (own : V.ownsRow U.heap.size 69 2 (r m) l (pL l p q)) (hB : Bk p q l (nn m) S) (hl : l ≤ 4398046511104) (hkb : ¬ F kb) (hku : U.heap.size ≤ kb) (hF : ∀ q, F q → U.heap.size ≤ q) (hr : ∀ g, (r m).ownBlock = some g → ¬ F g) (hi : I64 i) (hk0 : kd = 0) (h0 : ¬ i < 0) (hno : ∀ j, j < l → p j ≠ i) :
    Calls Try.prog 10 #[v, .pointer (some ⟨kb, m * 2, none⟩), .agg (xC kd wh i x), .bool false] V fun e w' => Plyd U V F v kb m r nn l e w' ∧ Below U.heap.size U w' := by
  have hn0 := hB.len
  have hni : ¬ (i ∈ kys S ∨ i < ((nn m : Nat) : Int)) := fun w => by
    obtain ⟨j, w1, w2⟩ := (hB.twice (by omega)).1 w
    exact hno j w1 w2
  go_enter Try.func10, Try.ntmps10
  refine wo_ 107 [(0, v), (1, .pointer (some ⟨kb, m * 2, none⟩)), (2, .agg (xC kd wh i x)), (3, .bool false)] ?_
  rintro a A ⟨t0, t1, t2, t3, -⟩
  have BB := hUV
  have FK := hK
  have FR := hR
  have FO := own
  have FXs := Saved.refl (Gm F kb (r m)) V
  refine wp_seq ?_
  obtain ⟨g6, egg6⟩ : ∃ z_ : Nat, V.heap.size = z_ := ⟨_, rfl⟩
  refine wi_ A (h4_ t0 t1 t2 t3) (rs_ 0 (fun a ee => ?_))
  refine stepV rfl rfl (execBxX rfl (ee _)) ⟨.pointer (some ⟨g6, 0, none⟩), ⟨_, rfl, by subst egg6; rfl⟩, fun X0 hX => ?_⟩
  have bQ : Below V.heap.size V X0 := by subst hX egg6; exact (belNew V _)
  have Fg6 : (X0.heap[g6]? = some (.cells (xC kd wh i x) 29)) := by subst hX egg6; exact heapNew V _
  have Fo6 : (¬ F g6) := by subst hX egg6; exact fun h => Nat.lt_irrefl _ (FR.lt _ h)
  replace FR := (FR.on bQ)
  replace FK := (on9 FK bQ)
  replace FO := (ownD_below FO bQ)
  replace FXs := (sv_on FXs bQ)
  replace BB := BB.trans (bQ.mono BB.size)
  clear bQ hX egg6 ee a
  refine rf_ [(6, .pointer (some ⟨g6, 0, none⟩))] (h3_ t0 t1 t3) ?_
  rintro a A ⟨t6, -⟩ ⟨t0, t1, t3, -⟩
  refine wp_seq ?_
  refine wp_seq ?_
  refine wi_ A (h4_ t0 t1 t3 t6) (rv_ 0 (.pointer (some ⟨g6, 0, none⟩)) (fun a ee => execFzX0 rfl (ee _)) (rv_ 1 (.int .i64 kd) (fun a ee => execL20 rfl (Or.inl rfl) (ee _) (xC_at Fg6).1) (rf_ [(15, .int .i64 kd)] (h4_ t0 t1 t3 t6) ?_)))
  rintro a A ⟨t15, -⟩ ⟨t0, t1, t3, t6, -⟩
  refine wp_block ?_
  refine wp_seq ?_
  refine wi_ A (h5_ t0 t1 t3 t6 t15) (rv_ 0 (.bool true) (fun a ee => execDec (exIeql3 (p := kd) (q := 0) rfl (ee _) rfl) (decide_eq_true hk0)) (rf_ [(16, .bool true)] (h5_ t0 t1 t3 t6 t15) ?_))
  rintro a A ⟨t16, -⟩ ⟨t0, t1, t3, t6, t15, -⟩
  refine wp_cond_true t16 ?_
  clear t16
  refine wp_seq ?_
  refine wj_ [0, 1, 2, 3, 4, 5, 6, 7] [6] [3, 5] [] A (h5_ t0 t1 t3 t6 t15) (fun X3_0 bD => ?_)
  refine dw_ 1 (.pointer (some ⟨kb, m * 2, none⟩)) (fun a X ee => execNl20 rfl (ee _)) (dw_ 2 (.pointer (some ⟨kb, m * 2, none⟩)) (fun a X ee => execFqK0 rfl (ee _)) (dv_ 3 (r m) (fun a X ee hb => execL20 rfl (Or.inr (Or.inr (Or.inr (Or.inr (Or.inl rfl))))) (ee _) (b3_at (on9 FK hb) hm).1) (dw_ 4 (.pointer (some ⟨g6, 2, none⟩)) (fun a X ee => execFzX2 rfl (ee _)) (dv_ 5 (.int .i64 i) (fun a X ee hb => execL20 rfl (Or.inl rfl) (ee _) (xC_at (on9 Fg6 hb)).2.2.1) (dc_ 6 (radd_o _ l p q i X3_0 (own_pairs (ownD_below FO bD)) h0 hno (by omega)) (cb_ fun X3 bQ => ?_))))))
  replace bD := bD.trans (bQ.mono bD.size)
  clear bQ
  refine ⟨Or.inr bD, ?_⟩
  refine dz_ [(9, .int .i64 ((0 : Nat) : Int))] (h4_ t0 t1 t3 t6) ?_
  rintro a A ⟨t9, -⟩ ⟨t0, t1, t3, t6, -⟩
  replace FR := (FR.on bD)
  replace FK := (on9 FK bD)
  replace FO := (ownD_below FO bD)
  replace FXs := (sv_on FXs bD)
  replace Fg6 := (on9 Fg6 bD)
  replace BB := BB.trans (bD.mono BB.size)
  clear bD
  refine wp_seq ?_
  refine wp_seq ?_
  refine wi_ A (h5_ t0 t1 t3 t6 t9) (rf_ [(25, .bool false)] (h5_ t0 t1 t3 t6 t9) ?_)
  rintro a A ⟨t25, -⟩ ⟨t0, t1, t3, t6, t9, -⟩
  refine wp_cond_false t25 ?_
  refine wp_skip ?_
  clear t25
  refine wp_seq ?_
  refine wp_seq ?_
  refine wi_ A (h5_ t0 t1 t3 t6 t9) (rv_ 1 (.pointer (some ⟨g6, 2, none⟩)) (fun a ee => execFzX2 rfl (ee _)) (rv_ 2 (.int .i64 i) (fun a ee => execL20 rfl (Or.inl rfl) (ee _) (xC_at Fg6).2.2.1) (rv_ 3 (.pointer (some ⟨g6, 3, none⟩)) (fun a ee => execFzX3 rfl (ee _)) (rv_ 4 (.int .i64 x) (fun a ee => execL20 rfl (Or.inl rfl) (ee _) (xC_at Fg6).2.2.2) (rc_ 5 (pput_oI FR (.int .i64 x) hi h0 (fun w => hni (Or.inl w)) (fun w => hni (Or.inr w))) fun e X6 hh => ?_)))))
  obtain ⟨fp1, he, hk, hs, hf⟩ := hh
  refine ⟨_, he, ?_⟩
  obtain ⟨BB, FK, FO, Fg6, FR1, FS1, Fsub, Frf, Fkf⟩ : Below U.heap.size U X6 ∧ (X6.heap[kb]? = some (.cells (b3 r nn) 35)) ∧ (X6.ownsRow U.heap.size 69 2 (r m) l (pL l p q)) ∧ (X6.heap[g6]? = some (.cells (xC kd wh i x) 29)) ∧ (BR 66 X6 fp1 v (S ++ [(i, Value.int .i64 x)]) (nn m)) ∧ (Saved (Gm F kb (r m)) V X6) ∧ (∀ q, fp1 q → F q ∨ V.heap.size ≤ q) ∧ (∀ g, (r m).ownBlock = some g → ¬ fp1 g) ∧ (¬ fp1 kb) := ⟨sv_bel BB hs hF, (bk_saved FK hs hkb), (own_sv FO hs hr), (bk_saved Fg6 hs Fo6), hk, sv_then2 FXs hs (fun q hq => Or.inl (Or.inl hq)), fun q hq => (hf q hq).imp id (fun w => Nat.le_trans FXs.size w), fun g hg h => (hf g h).elim (hr g hg) (fun w => Nat.not_lt.2 w (FO.lt g hg).2), fun h => (hf kb h).elim hkb (fun w => Nat.not_lt.2 w (Array.getElem?_eq_some_iff.1 FK).1)⟩
  clear FR FXs
  refine rv_ 7 (.bool false) (fun a ee => execDec (exIneq3 (p := ((0 : Nat) : Int)) (q := ((0 : Nat) : Int)) rfl (ee _) (ee _)) (decide_eq_false (fun h => h rfl))) (rf_ [(33, .bool false)] (h5_ t0 t1 t3 t6 t9) ?_)
  rintro a A ⟨t33, -⟩ ⟨t0, t1, t3, t6, t9, -⟩
  refine wp_cond_false t33 ?_
  refine wp_skip ?_
  clear t33
  refine wp_seq ?_
  refine wi_ A (h5_ t0 t1 t3 t6 t9) (rv_ 1 (.bool true) (fun a ee => execDec (exIeql3 (p := ((0 : Nat) : Int)) (q := 0) rfl (ee _) rfl) (decide_eq_true rfl)) (rf_ [(35, .bool true)] (h4_ t0 t1 t3 t6) ?_))
  rintro a A ⟨t35, -⟩ ⟨t0, t1, t3, t6, -⟩
  refine wp_cond_true t35 ?_
  clear t35
  refine wj_ [0, 1, 2, 3, 4, 5, 6, 7, 8, 9, 10, 11, 12, 13, 14] [10, 11, 14] [4, 6, 8] [11, 14] A (h4_ t0 t1 t3 t6) (fun X9_0 bD => ?_)
  obtain ⟨gs, eggs⟩ : ∃ z_ : Nat, X9_0.heap.size = z_ := ⟨_, rfl⟩
  refine dw_ 2 (.pointer (some ⟨kb, m * 2, none⟩)) (fun a X ee => execNl20 rfl (ee _)) (dw_ 3 (.pointer (some ⟨kb, m * 2, none⟩)) (fun a X ee => execFqK0 rfl (ee _)) (dv_ 4 (r m) (fun a X ee hb => execL20 rfl (Or.inr (Or.inr (Or.inr (Or.inr (Or.inl rfl))))) (ee _) (b3_at (on9 FK hb) hm).1) (dw_ 5 (.pointer (some ⟨g6, 2, none⟩)) (fun a X ee => execFzX2 rfl (ee _)) (dv_ 6 (.int .i64 i) (fun a X ee hb => execL20 rfl (Or.inl rfl) (ee _) (xC_at (on9 Fg6 hb)).2.2.1) (dw_ 7 (.pointer (some ⟨g6, 3, none⟩)) (fun a X ee => execFzX3 rfl (ee _)) (dv_ 8 (.int .i64 x) (fun a X ee hb => execL20 rfl (Or.inl rfl) (ee _) (xC_at (on9 Fg6 hb)).2.2.2) (dw_ 9 (.agg (fC i x)) (fun a X ee => execBdP rfl (Or.inl rfl) (ee _) (ee _)) (ds_ 10 (fun a ee => ?_)))))))))
  refine stepV rfl rfl (execBsP rfl (Or.inl ⟨rfl, rfl⟩) (ee _)) ⟨.slice (some ⟨gs, 0, none⟩) 1 1, ⟨_, rfl, by subst eggs; rfl⟩, fun X9_1 hX => ?_⟩
  have bQ : Below X9_0.heap.size X9_0 X9_1 := by subst hX eggs; exact (belNew X9_0 _)
  have Fs : (X9_1.heap[gs]? = some (.cells (fC i x) 69)) := by subst hX eggs; exact heapNew X9_0 _
  replace bD := bD.trans (bQ.mono bD.size)
  clear bQ hX eggs ee a
  refine ⟨Or.inr bD, ?_⟩
  refine ds_ 11 (fun a ee => ?_)
  refine stepApp20P (p := up p l i) (q := up q l x) rfl rfl rfl (ee _) (ee _) Try.underlying33 infPut (by rw [pL_cg (fun j hj => ⟨up_ne p i (Nat.ne_of_lt hj), up_ne q x (Nat.ne_of_lt hj)⟩)]; exact (ownD_below FO bD)) (by rw [up_at, up_at]; exact Fs) (by omega) ((BB.trans (bD.mono BB.size))).size fun r2 X9_2 own' gr hpl => ⟨_, ⟨_, rfl, rfl⟩, eqw ?_⟩
  obtain ⟨BB, FK, Fg6, FR1, FS1, FO2, Fr2, Fnw⟩ : Below U.heap.size U X9_2 ∧ (X9_2.heap[kb]? = some (.cells (b3 r nn) 35)) ∧ (X9_2.heap[g6]? = some (.cells (xC kd wh i x) 29)) ∧ (BR 66 X9_2 fp1 v (S ++ [(i, Value.int .i64 x)]) (nn m)) ∧ (Saved (Gm F kb (r m)) V X9_2) ∧ (X9_2.ownsRow U.heap.size 69 2 r2 (l + 1) (pL (l + 1) (up p l i) (up q l x))) ∧ (∀ g, r2.ownBlock = some g → (r m).ownBlock = some g ∨ V.heap.size ≤ g) ∧ (∀ g, r2.ownBlock = some g → ¬ fp1 g) := ⟨((BB.trans (bD.mono BB.size))).grown gr ((BB.trans (bD.mono BB.size))).size (fun k hk => ((ownD_below FO bD).lt k hk).1), (Duc.keep_over (on9 FK bD) (ownD_below FO bD) gr (by decide)), (Duc.keep_over (on9 Fg6 bD) (ownD_below FO bD) gr (by decide)), (br_gr (FR1.on bD) gr Frf), ((sv_on FS1 bD).grown gr (fun k hk => Or.inr (Or.inr (Or.inr hk)))), own', fun g hg => (hpl g hg).imp id (fun w => Nat.le_trans (sv_on FS1 bD).size w), fun g hg h => (hpl g hg).elim (fun w => Frf g w h) (fun w => Nat.not_lt.2 w ((FR1.on bD).lt g h))⟩
  clear bD FO Fs ee a
  refine ⟨Or.inl rfl, ?_⟩
  refine dw_ 12 (.pointer (some ⟨kb, m * 2, none⟩)) (fun a X ee => execNl20 rfl (ee _)) (dw_ 13 (.pointer (some ⟨kb, m * 2, none⟩)) (fun a X ee => execFqK0 rfl (ee _)) (ds_ 14 (fun a ee => ?_)))
  refine stepS rfl rfl (execS20 rfl (Or.inr (Or.inr (Or.inr (Or.inr (Or.inl rfl))))) (ee _) (ee _) (Or.inr (Or.inr (own_slq FO2))) (b3_at FK hm).1 (frozen4 FK)) ⟨_, ⟨_, rfl, rfl⟩, fun X9 hX => ?_⟩
  obtain ⟨BB, Fg6, FR1, FS1, FO2, FK2⟩ : Below U.heap.size U X9 ∧ (X9.heap[g6]? = some (.cells (xC kd wh i x) 29)) ∧ (BR 66 X9 fp1 v (S ++ [(i, Value.int .i64 x)]) (nn m)) ∧ (Saved (Gm F kb (r m)) V X9) ∧ (X9.ownsRow U.heap.size 69 2 r2 (l + 1) (pL (l + 1) (up p l i) (up q l x))) ∧ (X9.heap[kb]? = some (.cells (b3 (up r m r2) nn) 35)) := by subst hX; exact ⟨(BB).setCell (p := ⟨kb, m * 2, none⟩) hku _, (keepT Fg6 FK (by decide) grC20), (br_gr FR1 grC20 (fun g e => by cases e; exact Fkf)), (FS1.cell _ (Or.inr (Or.inr (Or.inl rfl)))), (ownG_T FO2 FK (by decide) grC20), b3_set0 FK hm _⟩
  clear FK hX ee a
  refine ⟨Or.inl rfl, ?_⟩
  refine dz_ [] (h4_ t0 t1 t3 t6) ?_
  rintro a A - ⟨t0, t1, t3, t6, -⟩
  have hB2 := hB.put (x := x) (by omega) hi hno
  have hL2 := hB2.len
  refine wp_seq ?_
  refine wj_ [0, 2, 3, 4, 5, 1, 6, 7, 8, 10, 11, 12, 13, 14, 15, 16, 17, 18, 19, 9, 20, 21, 22] [1, 9] [5, 13, 14, 18] [] A (h4_ t0 t1 t3 t6) (fun X17_0 bD => ?_)
  refine dw_ 3 (.pointer (some ⟨kb, m * 2, none⟩)) (fun a X ee => execNl20 rfl (ee _)) (dw_ 4 (.pointer (some ⟨kb, m * 2 + 1, none⟩)) (fun a X ee => execFqK1 rfl (ee _)) (dv_ 5 (.int .i64 ((nn m : Nat) : Int)) (fun a X ee hb => execL20 rfl (Or.inl rfl) (ee _) (b3_at (on9 FK2 hb) hm).2) (dc_ 1 (patI (FR1.on bD)) (cb_ fun X17_1 bQ => ?_))))
  replace bD := bD.trans (bQ.mono bD.size)
  clear bQ
  refine ⟨Or.inr bD, ?_⟩
  refine dw_ 6 (.bool true) (fun a X ee => execDec (exIeql3 (p := ((nn m : Nat) : Int)) (q := ((nn m : Nat) : Int)) rfl (ee _) (ee _)) (decide_eq_true rfl)) (dw_ 11 (.pointer (some ⟨kb, m * 2, none⟩)) (fun a X ee => execNl20 rfl (ee _)) (dw_ 12 (.pointer (some ⟨kb, m * 2, none⟩)) (fun a X ee => execFqK0 rfl (ee _)) (dv_ 13 (r2) (fun a X ee hb => execL20 rfl (Or.inr (Or.inr (Or.inr (Or.inr (Or.inl rfl))))) (ee _) ((b3_at (on9 FK2 hb) hm).1.trans (by rw [up_at]))) (dv_ 14 (.int .i64 ((l + 1 : Nat) : Int)) (fun a X ee hb => execLnP (len := l + 1) rfl (Or.inl rfl) (ee _) (own_shp (ownD_below FO2 hb))) (dw_ 16 (.pointer (some ⟨kb, m * 2, none⟩)) (fun a X ee => execNl20 rfl (ee _)) (dw_ 17 (.pointer (some ⟨kb, m * 2 + 1, none⟩)) (fun a X ee => execFqK1 rfl (ee _)) (dv_ 18 (.int .i64 ((nn m : Nat) : Int)) (fun a X ee hb => execL20 rfl (Or.inl rfl) (ee _) (b3_at (on9 FK2 hb) hm).2) (dw_ 19 (.int .i64 ((l + 1 - (nn m) : Nat) : Int)) (fun a X ee => By8.execSubI (p := l + 1) (q := nn m) rfl (ee _) (ee _) (by omega) (by omega)) (dc_ 9 (pheldI (FR1.on bD)) (cb_ fun X17 bQ => ?_))))))))))
  replace bD := bD.trans (bQ.mono bD.size)
  clear bQ
  refine ⟨Or.inr bD, ?_⟩
  refine dw_ 20 (.bool true) (fun a X ee => execDec (exIeql3 (p := (((S ++ [(i, Value.int .i64 x)]).length : Nat) : Int)) (q := ((l + 1 - (nn m) : Nat) : Int)) rfl (ee _) (ee _)) (decide_eq_true (by omega))) (dy_ [(8, .bool true)] ?_)
  rintro a A ⟨t8, -⟩
  replace Fg6 := (on9 Fg6 bD)
  replace FR1 := (FR1.on bD)
  replace FS1 := (sv_on FS1 bD)
  replace FO2 := (ownD_below FO2 bD)
  replace FK2 := (on9 FK2 bD)
  replace BB := BB.trans (bD.mono BB.size)
  clear bD
  refine wp_ret ?_
  refine bodyPost_ret (results_tmp rfl _ _ _) A.2 ⟨⟨fp1, r2, _, _, _, (nn m), (S ++ [(i, Value.int .i64 x)]), ?_, FR1, (by rw [up_self nn m]; exact FK2), FO2, hB2, by omega, Fnw, Fr2, Fsub, FS1⟩, BB⟩
  show Ending.returned (a.eval (.tmp 8)) = _
  rw [t8]
set_option maxRecDepth 100000 in
set_option maxHeartbeats 4000000 in
/-- played. -/
theorem ply_e (v : Value) (F : Nat → Prop) (kb m : Nat) (r : Nat → Value) (nn : Nat → Nat) (p q : Nat → Int) (l : Nat) (S : Its) (kd wh i x : Int) (U V : World) (hUV : Below U.heap.size U V) (hR : BR 66 V F v S (nn m)) (hK : V.heap[kb]? = some (.cells (b3 r nn) 35)) (hm : m < 3) (own : V.ownsRow U.heap.size 69 2 (r m) l (pL l p q)) (hB : Bk p q l (nn m) S) (hl : l ≤ 4398046511104) (hr : ∀ g, (r m).ownBlock = some g → ¬ F g) (hk0 : ¬ kd = 0) (hk1 : kd = 1) (hno : ∀ j, j < l → p j ≠ ((nn m : Nat) : Int)) :
    Calls Try.prog 10 #[v, .pointer (some ⟨kb, m * 2, none⟩), .agg (xC kd wh i x), .bool false] V fun e w' => Plyd U V F v kb m r nn l e w' ∧ Below U.heap.size U w' := by
  have hn0 := hB.len
  go_enter Try.func10, Try.ntmps10
  refine wo_ 107 [(0, v), (1, .pointer (some ⟨kb, m * 2, none⟩)), (2, .agg (xC kd wh i x)), (3, .bool false)] ?_
  rintro a A ⟨t0, t1, t2, t3, -⟩
  have BB := hUV
  have FK := hK
  have FR := hR
  have FO := own
  have FXs := Saved.refl (Gm F kb (r m)) V
  refine wp_seq ?_
  obtain ⟨g6, egg6⟩ : ∃ z_ : Nat, V.heap.size = z_ := ⟨_, rfl⟩
  refine wi_ A (h4_ t0 t1 t2 t3) (rs_ 0 (fun a ee => ?_))
  refine stepV rfl rfl (execBxX rfl (ee _)) ⟨.pointer (some ⟨g6, 0, none⟩), ⟨_, rfl, by subst egg6; rfl⟩, fun X0 hX => ?_⟩
  have bQ : Below V.heap.size V X0 := by subst hX egg6; exact (belNew V _)
  have Fg6 : (X0.heap[g6]? = some (.cells (xC kd wh i x) 29)) := by subst hX egg6; exact heapNew V _
  have Fo6 : (¬ F g6) := by subst hX egg6; exact fun h => Nat.lt_irrefl _ (FR.lt _ h)
  replace FR := (FR.on bQ)
  replace FK := (on9 FK bQ)
  replace FO := (ownD_below FO bQ)
  replace FXs := (sv_on FXs bQ)
  replace BB := BB.trans (bQ.mono BB.size)
  clear bQ hX egg6 ee a
  refine rf_ [(6, .pointer (some ⟨g6, 0, none⟩))] (h3_ t0 t1 t3) ?_
  rintro a A ⟨t6, -⟩ ⟨t0, t1, t3, -⟩
  refine wp_seq ?_
  refine wp_seq ?_
  refine wi_ A (h4_ t0 t1 t3 t6) (rv_ 0 (.pointer (some ⟨g6, 0, none⟩)) (fun a ee => execFzX0 rfl (ee _)) (rv_ 1 (.int .i64 kd) (fun a ee => execL20 rfl (Or.inl rfl) (ee _) (xC_at Fg6).1) (rf_ [(15, .int .i64 kd)] (h4_ t0 t1 t3 t6) ?_)))
  rintro a A ⟨t15, -⟩ ⟨t0, t1, t3, t6, -⟩
  refine wp_block ?_
  refine wp_seq ?_
  refine wi_ A (h5_ t0 t1 t3 t6 t15) (rv_ 0 (.bool false) (fun a ee => execDec (exIeql3 (p := kd) (q := 0) rfl (ee _) rfl) (decide_eq_false hk0)) (rf_ [(16, .bool false)] (h5_ t0 t1 t3 t6 t15) ?_))
  rintro a A ⟨t16, -⟩ ⟨t0, t1, t3, t6, t15, -⟩
  refine wp_cond_false t16 ?_
  clear t16
  refine wp_seq ?_
  refine wi_ A (h5_ t0 t1 t3 t6 t15) (rv_ 0 (.bool true) (fun a ee => execDec (exIeql3 (p := kd) (q := 1) rfl (ee _) rfl) (decide_eq_true hk1)) (rf_ [(50, .bool true)] (h4_ t0 t1 t3 t6) ?_))
  rintro a A ⟨t50, -⟩ ⟨t0, t1, t3, t6, -⟩
  refine wp_cond_true t50 ?_
  clear t50
  refine wp_seq ?_
  refine wi_ A (h4_ t0 t1 t3 t6) (rc_ 1 (pnext_eI FR (by omega) (hB.none hno)) (cb_ fun X11 bQ => ?_))
  replace FR := (FR.on bQ)
  replace FK := (on9 FK bQ)
  replace FO := (ownD_below FO bQ)
  replace FXs := (sv_on FXs bQ)
  replace Fg6 := (on9 Fg6 bQ)
  replace BB := BB.trans (bQ.mono BB.size)
  clear bQ
  refine rf_ [(10, .int .i64 ((0 : Nat) : Int)), (11, .bool false)] (h4_ t0 t1 t3 t6) ?_
  rintro a A ⟨t10, t11, -⟩ ⟨t0, t1, t3, t6, -⟩
  refine wp_seq ?_
  refine wj_ [0, 1, 2, 3, 4, 5, 6, 7, 8, 9, 10, 11, 12, 13] [8] [3, 7] [] A (h6_ t0 t1 t3 t6 t10 t11) (fun X12_0 bD => ?_)
  refine dw_ 1 (.pointer (some ⟨kb, m * 2, none⟩)) (fun a X ee => execNl20 rfl (ee _)) (dw_ 2 (.pointer (some ⟨kb, m * 2, none⟩)) (fun a X ee => execFqK0 rfl (ee _)) (dv_ 3 (r m) (fun a X ee hb => execL20 rfl (Or.inr (Or.inr (Or.inr (Or.inr (Or.inl rfl))))) (ee _) (b3_at (on9 FK hb) hm).1) (dw_ 5 (.pointer (some ⟨kb, m * 2, none⟩)) (fun a X ee => execNl20 rfl (ee _)) (dw_ 6 (.pointer (some ⟨kb, m * 2 + 1, none⟩)) (fun a X ee => execFqK1 rfl (ee _)) (dv_ 7 (.int .i64 ((nn m : Nat) : Int)) (fun a X ee hb => execL20 rfl (Or.inl rfl) (ee _) (b3_at (on9 FK hb) hm).2) (dc_ 8 (rnext_n _ l p q _ X12_0 (own_pairs (ownD_below FO bD)) hno (by omega)) (cb_ fun X12 bQ => ?_)))))))
  replace bD := bD.trans (bQ.mono bD.size)
  clear bQ
  refine ⟨Or.inr bD, ?_⟩
  refine dz_ [(12, .int .i64 ((0 : Nat) : Int)), (13, .bool false)] (h6_ t0 t1 t3 t6 t10 t11) ?_
  rintro a A ⟨t12, t13, -⟩ ⟨t0, t1, t3, t6, t10, t11, -⟩
  replace FR := (FR.on bD)
  replace FK := (on9 FK bD)
  replace FO := (ownD_below FO bD)
  replace FXs := (sv_on FXs bD)
  replace Fg6 := (on9 Fg6 bD)
  replace BB := BB.trans (bD.mono BB.size)
  clear bD
  refine wp_seq ?_
  refine wp_seq ?_
  refine wi_ A (h8_ t0 t1 t3 t6 t10 t11 t12 t13) (rv_ 2 (.bool false) (fun a ee => execDec (exIneq3 (p := ((0 : Nat) : Int)) (q := ((0 : Nat) : Int)) rfl (ee _) (ee _)) (decide_eq_false (fun h => h rfl))) (rv_ 6 (.bool false) (fun a ee => execNeBB20 rfl (ee _) (ee _)) (rf_ [(76, .bool false)] (h5_ t0 t1 t3 t6 t11) ?_)))
  rintro a A ⟨t76, -⟩ ⟨t0, t1, t3, t6, t11, -⟩
  refine wp_cond_false t76 ?_
  refine wp_skip ?_
  clear t76
  refine wp_seq ?_
  refine wi_ A (h5_ t0 t1 t3 t6 t11) (rf_ [(77, .bool false)] (h4_ t0 t1 t3 t6) ?_)
  rintro a A ⟨t77, -⟩ ⟨t0, t1, t3, t6, -⟩
  refine wp_cond_false t77 ?_
  refine wp_skip ?_
  have hL2 := hB.len
  refine wp_seq ?_
  refine wj_ [0, 2, 3, 4, 5, 1, 6, 7, 8, 10, 11, 12, 13, 14, 15, 16, 17, 18, 19, 9, 20, 21, 22] [1, 9] [5, 13, 14, 18] [] A (h4_ t0 t1 t3 t6) (fun X17_0 bD => ?_)
  refine dw_ 3 (.pointer (some ⟨kb, m * 2, none⟩)) (fun a X ee => execNl20 rfl (ee _)) (dw_ 4 (.pointer (some ⟨kb, m * 2 + 1, none⟩)) (fun a X ee => execFqK1 rfl (ee _)) (dv_ 5 (.int .i64 ((nn m : Nat) : Int)) (fun a X ee hb => execL20 rfl (Or.inl rfl) (ee _) (b3_at (on9 FK hb) hm).2) (dc_ 1 (patI (FR.on bD)) (cb_ fun X17_1 bQ => ?_))))
  replace bD := bD.trans (bQ.mono bD.size)
  clear bQ
  refine ⟨Or.inr bD, ?_⟩
  refine dw_ 6 (.bool true) (fun a X ee => execDec (exIeql3 (p := ((nn m : Nat) : Int)) (q := ((nn m : Nat) : Int)) rfl (ee _) (ee _)) (decide_eq_true rfl)) (dw_ 11 (.pointer (some ⟨kb, m * 2, none⟩)) (fun a X ee => execNl20 rfl (ee _)) (dw_ 12 (.pointer (some ⟨kb, m * 2, none⟩)) (fun a X ee => execFqK0 rfl (ee _)) (dv_ 13 (r m) (fun a X ee hb => execL20 rfl (Or.inr (Or.inr (Or.inr (Or.inr (Or.inl rfl))))) (ee _) (b3_at (on9 FK hb) hm).1) (dv_ 14 (.int .i64 ((l : Nat) : Int)) (fun a X ee hb => execLnP (len := l) rfl (Or.inl rfl) (ee _) (own_shp (ownD_below FO hb))) (dw_ 16 (.pointer (some ⟨kb, m * 2, none⟩)) (fun a X ee => execNl20 rfl (ee _)) (dw_ 17 (.pointer (some ⟨kb, m * 2 + 1, none⟩)) (fun a X ee => execFqK1 rfl (ee _)) (dv_ 18 (.int .i64 ((nn m : Nat) : Int)) (fun a X ee hb => execL20 rfl (Or.inl rfl) (ee _) (b3_at (on9 FK hb) hm).2) (dw_ 19 (.int .i64 ((l - (nn m) : Nat) : Int)) (fun a X ee => By8.execSubI (p := l) (q := nn m) rfl (ee _) (ee _) (by omega) (by omega)) (dc_ 9 (pheldI (FR.on bD)) (cb_ fun X17 bQ => ?_))))))))))
  replace bD := bD.trans (bQ.mono bD.size)
  clear bQ
  refine ⟨Or.inr bD, ?_⟩
  refine dw_ 20 (.bool true) (fun a X ee => execDec (exIeql3 (p := ((S.length : Nat) : Int)) (q := ((l - (nn m) : Nat) : Int)) rfl (ee _) (ee _)) (decide_eq_true (by omega))) (dy_ [(8, .bool true)] ?_)
  rintro a A ⟨t8, -⟩
  replace FR := (FR.on bD)
  replace FK := (on9 FK bD)
  replace FO := (ownD_below FO bD)
  replace FXs := (sv_on FXs bD)
  replace Fg6 := (on9 Fg6 bD)
  replace BB := BB.trans (bD.mono BB.size)
  clear bD
  refine wp_ret ?_
  refine bodyPost_ret (results_tmp rfl _ _ _) A.2 ⟨⟨F, (r m), _, _, _, (nn m), S, ?_, FR, (by rw [up_self nn m, up_self r m]; exact FK), FO, hB, by omega, hr, fun g hg => Or.inl hg, fun q hq => Or.inl hq, FXs⟩, BB⟩
  show Ending.returned (a.eval (.tmp 8)) = _
  rw [t8]
set_option maxRecDepth 100000 in
set_option maxHeartbeats 4000000 in
/-- played. -/
theorem ply_g (v : Value) (F : Nat → Prop) (kb m : Nat) (r : Nat → Value) (nn : Nat → Nat) (p q : Nat → Int) (l : Nat) (S : Its) (kd wh i x : Int) (U V : World) (hUV : Below U.heap.size U V) (hR : BR 66 V F v S (nn m)) (hK : V.heap[kb]? = some (.cells (b3 r nn) 35)) (hm : m < 3) (own : V.ownsRow U.heap.size 69 2 (r m) l (pL l p q)) (hB : Bk p q l (nn m) S) (hl : l ≤ 4398046511104) (hkb : ¬ F kb) (hku : U.heap.size ≤ kb) (hF : ∀ q, F q → U.heap.size ≤ q) (hr : ∀ g, (r m).ownBlock = some g → ¬ F g) (hk0 : ¬ kd = 0) (hk1 : kd = 1) (j : Nat) (hjl : j < l) (hj : p j = ((nn m : Nat) : Int)) :
    Calls Try.prog 10 #[v, .pointer (some ⟨kb, m * 2, none⟩), .agg (xC kd wh i x), .bool false] V fun e w' => Plyd U V F v kb m r nn l e w' ∧ Below U.heap.size U w' := by
  have hn0 := hB.len
  go_enter Try.func10, Try.ntmps10
  refine wo_ 107 [(0, v), (1, .pointer (some ⟨kb, m * 2, none⟩)), (2, .agg (xC kd wh i x)), (3, .bool false)] ?_
  rintro a A ⟨t0, t1, t2, t3, -⟩
  have BB := hUV
  have FK := hK
  have FR := hR
  have FO := own
  have FXs := Saved.refl (Gm F kb (r m)) V
  refine wp_seq ?_
  obtain ⟨g6, egg6⟩ : ∃ z_ : Nat, V.heap.size = z_ := ⟨_, rfl⟩
  refine wi_ A (h4_ t0 t1 t2 t3) (rs_ 0 (fun a ee => ?_))
  refine stepV rfl rfl (execBxX rfl (ee _)) ⟨.pointer (some ⟨g6, 0, none⟩), ⟨_, rfl, by subst egg6; rfl⟩, fun X0 hX => ?_⟩
  have bQ : Below V.heap.size V X0 := by subst hX egg6; exact (belNew V _)
  have Fg6 : (X0.heap[g6]? = some (.cells (xC kd wh i x) 29)) := by subst hX egg6; exact heapNew V _
  have Fo6 : (¬ F g6) := by subst hX egg6; exact fun h => Nat.lt_irrefl _ (FR.lt _ h)
  replace FR := (FR.on bQ)
  replace FK := (on9 FK bQ)
  replace FO := (ownD_below FO bQ)
  replace FXs := (sv_on FXs bQ)
  replace BB := BB.trans (bQ.mono BB.size)
  clear bQ hX egg6 ee a
  refine rf_ [(6, .pointer (some ⟨g6, 0, none⟩))] (h3_ t0 t1 t3) ?_
  rintro a A ⟨t6, -⟩ ⟨t0, t1, t3, -⟩
  refine wp_seq ?_
  refine wp_seq ?_
  refine wi_ A (h4_ t0 t1 t3 t6) (rv_ 0 (.pointer (some ⟨g6, 0, none⟩)) (fun a ee => execFzX0 rfl (ee _)) (rv_ 1 (.int .i64 kd) (fun a ee => execL20 rfl (Or.inl rfl) (ee _) (xC_at Fg6).1) (rf_ [(15, .int .i64 kd)] (h4_ t0 t1 t3 t6) ?_)))
  rintro a A ⟨t15, -⟩ ⟨t0, t1, t3, t6, -⟩
  refine wp_block ?_
  refine wp_seq ?_
  refine wi_ A (h5_ t0 t1 t3 t6 t15) (rv_ 0 (.bool false) (fun a ee => execDec (exIeql3 (p := kd) (q := 0) rfl (ee _) rfl) (decide_eq_false hk0)) (rf_ [(16, .bool false)] (h5_ t0 t1 t3 t6 t15) ?_))
  rintro a A ⟨t16, -⟩ ⟨t0, t1, t3, t6, t15, -⟩
  refine wp_cond_false t16 ?_
  clear t16
  refine wp_seq ?_
  refine wi_ A (h5_ t0 t1 t3 t6 t15) (rv_ 0 (.bool true) (fun a ee => execDec (exIeql3 (p := kd) (q := 1) rfl (ee _) rfl) (decide_eq_true hk1)) (rf_ [(50, .bool true)] (h4_ t0 t1 t3 t6) ?_))
  rintro a A ⟨t50, -⟩ ⟨t0, t1, t3, t6, -⟩
  refine wp_cond_true t50 ?_
  clear t50
  refine wp_seq ?_
  refine wi_ A (h4_ t0 t1 t3 t6) (rc_ 1 (pnext_oI (x := .int .i64 (q j)) FR (by omega) (hB.at hjl hj)) fun e X11 hh => ?_)
  obtain ⟨fp1, he, hk, hs, hf⟩ := hh
  refine ⟨_, he, ?_⟩
  obtain ⟨BB, FK, FO, Fg6, FR1, FS1, Fsub, Frf, Fkf⟩ : Below U.heap.size U X11 ∧ (X11.heap[kb]? = some (.cells (b3 r nn) 35)) ∧ (X11.ownsRow U.heap.size 69 2 (r m) l (pL l p q)) ∧ (X11.heap[g6]? = some (.cells (xC kd wh i x) 29)) ∧ (BR 66 X11 fp1 v (wo S ((nn m : Nat) : Int)) (nn m + 1)) ∧ (Saved (Gm F kb (r m)) V X11) ∧ (∀ q, fp1 q → F q ∨ V.heap.size ≤ q) ∧ (∀ g, (r m).ownBlock = some g → ¬ fp1 g) ∧ (¬ fp1 kb) := ⟨sv_bel BB hs hF, (bk_saved FK hs hkb), (own_sv FO hs hr), (bk_saved Fg6 hs Fo6), hk, sv_then2 FXs hs (fun q hq => Or.inl (Or.inl hq)), fun q hq => (hf q hq).imp id (fun w => Nat.le_trans FXs.size w), fun g hg h => (hf g h).elim (hr g hg) (fun w => Nat.not_lt.2 w (FO.lt g hg).2), fun h => (hf kb h).elim hkb (fun w => Nat.not_lt.2 w (Array.getElem?_eq_some_iff.1 FK).1)⟩
  clear FR FXs
  refine rf_ [(10, .int .i64 (q j)), (11, .bool true)] (h4_ t0 t1 t3 t6) ?_
  rintro a A ⟨t10, t11, -⟩ ⟨t0, t1, t3, t6, -⟩
  refine wp_seq ?_
  refine wj_ [0, 1, 2, 3, 4, 5, 6, 7, 8, 9, 10, 11, 12, 13] [8] [3, 7] [] A (h6_ t0 t1 t3 t6 t10 t11) (fun X12_0 bD => ?_)
  refine dw_ 1 (.pointer (some ⟨kb, m * 2, none⟩)) (fun a X ee => execNl20 rfl (ee _)) (dw_ 2 (.pointer (some ⟨kb, m * 2, none⟩)) (fun a X ee => execFqK0 rfl (ee _)) (dv_ 3 (r m) (fun a X ee hb => execL20 rfl (Or.inr (Or.inr (Or.inr (Or.inr (Or.inl rfl))))) (ee _) (b3_at (on9 FK hb) hm).1) (dw_ 5 (.pointer (some ⟨kb, m * 2, none⟩)) (fun a X ee => execNl20 rfl (ee _)) (dw_ 6 (.pointer (some ⟨kb, m * 2 + 1, none⟩)) (fun a X ee => execFqK1 rfl (ee _)) (dv_ 7 (.int .i64 ((nn m : Nat) : Int)) (fun a X ee hb => execL20 rfl (Or.inl rfl) (ee _) (b3_at (on9 FK hb) hm).2) (dc_ 8 (rnext_s _ l p q _ X12_0 (own_pairs (ownD_below FO bD)) j hjl hj hB.inj (by omega)) (cb_ fun X12 bQ => ?_)))))))
  replace bD := bD.trans (bQ.mono bD.size)
  clear bQ
  refine ⟨Or.inr bD, ?_⟩
  refine dz_ [(12, .int .i64 (q j)), (13, .bool true)] (h6_ t0 t1 t3 t6 t10 t11) ?_
  rintro a A ⟨t12, t13, -⟩ ⟨t0, t1, t3, t6, t10, t11, -⟩
  replace FK := (on9 FK bD)
  replace FO := (ownD_below FO bD)
  replace Fg6 := (on9 Fg6 bD)
  replace FR1 := (FR1.on bD)
  replace FS1 := (sv_on FS1 bD)
  replace BB := BB.trans (bD.mono BB.size)
  clear bD
  refine wp_seq ?_
  refine wp_seq ?_
  refine wi_ A (h8_ t0 t1 t3 t6 t10 t11 t12 t13) (rv_ 2 (.bool false) (fun a ee => execDec (exIneq3 (p := (q j)) (q := (q j)) rfl (ee _) (ee _)) (decide_eq_false (fun h => h rfl))) (rv_ 6 (.bool false) (fun a ee => execNeBB20 rfl (ee _) (ee _)) (rf_ [(76, .bool false)] (h5_ t0 t1 t3 t6 t11) ?_)))
  rintro a A ⟨t76, -⟩ ⟨t0, t1, t3, t6, t11, -⟩
  refine wp_cond_false t76 ?_
  refine wp_skip ?_
  clear t76
  refine wp_seq ?_
  refine wi_ A (h5_ t0 t1 t3 t6 t11) (rf_ [(77, .bool true)] (h4_ t0 t1 t3 t6) ?_)
  rintro a A ⟨t77, -⟩ ⟨t0, t1, t3, t6, -⟩
  refine wp_cond_true t77 ?_
  clear t77
  refine wi_ A (h4_ t0 t1 t3 t6) (rv_ 1 (.pointer (some ⟨kb, m * 2, none⟩)) (fun a ee => execNl20 rfl (ee _)) (rv_ 2 (.pointer (some ⟨kb, m * 2 + 1, none⟩)) (fun a ee => execFqK1 rfl (ee _)) (rv_ 3 (.int .i64 ((nn m : Nat) : Int)) (fun a ee => execL20 rfl (Or.inl rfl) (ee _) (b3_at FK hm).2) (rv_ 4 (.int .i64 ((nn m + 1 : Nat) : Int)) (fun a ee => execAd8 (p := nn m) (q := 1) rfl (ee _) rfl (by omega)) (rv_ 5 (.pointer (some ⟨kb, m * 2, none⟩)) (fun a ee => execNl20 rfl (ee _)) (rv_ 6 (.pointer (some ⟨kb, m * 2 + 1, none⟩)) (fun a ee => execFqK1 rfl (ee _)) (rs_ 7 (fun a ee => ?_))))))))
  refine stepS rfl rfl (execS20 rfl (Or.inl rfl) (ee _) (ee _) (Or.inl ⟨_, rfl⟩) (b3_at FK hm).2 (frozen4 FK)) ⟨_, ⟨_, rfl, rfl⟩, fun X16 hX => ?_⟩
  obtain ⟨BB, FO, Fg6, FR1, FS1, FK2⟩ : Below U.heap.size U X16 ∧ (X16.ownsRow U.heap.size 69 2 (r m) l (pL l p q)) ∧ (X16.heap[g6]? = some (.cells (xC kd wh i x) 29)) ∧ (BR 66 X16 fp1 v (wo S ((nn m : Nat) : Int)) (nn m + 1)) ∧ (Saved (Gm F kb (r m)) V X16) ∧ (X16.heap[kb]? = some (.cells (b3 r (up nn m (nn m + 1))) 35)) := by subst hX; exact ⟨(BB).setCell (p := ⟨kb, m * 2 + 1, none⟩) hku _, (ownG_T FO FK (by decide) grC20), (keepT Fg6 FK (by decide) grC20), (br_gr FR1 grC20 (fun g e => by cases e; exact Fkf)), (FS1.cell _ (Or.inr (Or.inr (Or.inl rfl)))), b3_set1 FK hm _⟩
  clear FK hX ee a
  refine rf_ [] (h4_ t0 t1 t3 t6) ?_
  rintro a A - ⟨t0, t1, t3, t6, -⟩
  have hB2 := hB.next hR.nod (hB.at hjl hj)
  have hL2 := hB2.len
  refine wp_seq ?_
  refine wj_ [0, 2, 3, 4, 5, 1, 6, 7, 8, 10, 11, 12, 13, 14, 15, 16, 17, 18, 19, 9, 20, 21, 22] [1, 9] [5, 13, 14, 18] [] A (h4_ t0 t1 t3 t6) (fun X17_0 bD => ?_)
  refine dw_ 3 (.pointer (some ⟨kb, m * 2, none⟩)) (fun a X ee => execNl20 rfl (ee _)) (dw_ 4 (.pointer (some ⟨kb, m * 2 + 1, none⟩)) (fun a X ee => execFqK1 rfl (ee _)) (dv_ 5 (.int .i64 ((nn m + 1 : Nat) : Int)) (fun a X ee hb => execL20 rfl (Or.inl rfl) (ee _) ((b3_at (on9 FK2 hb) hm).2.trans (by rw [up_at]))) (dc_ 1 (patI (FR1.on bD)) (cb_ fun X17_1 bQ => ?_))))
  replace bD := bD.trans (bQ.mono bD.size)
  clear bQ
  refine ⟨Or.inr bD, ?_⟩
  refine dw_ 6 (.bool true) (fun a X ee => execDec (exIeql3 (p := ((nn m + 1 : Nat) : Int)) (q := ((nn m + 1 : Nat) : Int)) rfl (ee _) (ee _)) (decide_eq_true rfl)) (dw_ 11 (.pointer (some ⟨kb, m * 2, none⟩)) (fun a X ee => execNl20 rfl (ee _)) (dw_ 12 (.pointer (some ⟨kb, m * 2, none⟩)) (fun a X ee => execFqK0 rfl (ee _)) (dv_ 13 (r m) (fun a X ee hb => execL20 rfl (Or.inr (Or.inr (Or.inr (Or.inr (Or.inl rfl))))) (ee _) (b3_at (on9 FK2 hb) hm).1) (dv_ 14 (.int .i64 ((l : Nat) : Int)) (fun a X ee hb => execLnP (len := l) rfl (Or.inl rfl) (ee _) (own_shp (ownD_below FO hb))) (dw_ 16 (.pointer (some ⟨kb, m * 2, none⟩)) (fun a X ee => execNl20 rfl (ee _)) (dw_ 17 (.pointer (some ⟨kb, m * 2 + 1, none⟩)) (fun a X ee => execFqK1 rfl (ee _)) (dv_ 18 (.int .i64 ((nn m + 1 : Nat) : Int)) (fun a X ee hb => execL20 rfl (Or.inl rfl) (ee _) ((b3_at (on9 FK2 hb) hm).2.trans (by rw [up_at]))) (dw_ 19 (.int .i64 ((l - (nn m + 1) : Nat) : Int)) (fun a X ee => By8.execSubI (p := l) (q := nn m + 1) rfl (ee _) (ee _) (by omega) (by omega)) (dc_ 9 (pheldI (FR1.on bD)) (cb_ fun X17 bQ => ?_))))))))))
  replace bD := bD.trans (bQ.mono bD.size)
  clear bQ
  refine ⟨Or.inr bD, ?_⟩
  refine dw_ 20 (.bool true) (fun a X ee => execDec (exIeql3 (p := (((wo S ((nn m : Nat) : Int)).length : Nat) : Int)) (q := ((l - (nn m + 1) : Nat) : Int)) rfl (ee _) (ee _)) (decide_eq_true (by omega))) (dy_ [(8, .bool true)] ?_)
  rintro a A ⟨t8, -⟩
  replace FO := (ownD_below FO bD)
  replace Fg6 := (on9 Fg6 bD)
  replace FR1 := (FR1.on bD)
  replace FS1 := (sv_on FS1 bD)
  replace FK2 := (on9 FK2 bD)
  replace BB := BB.trans (bD.mono BB.size)
  clear bD
  refine wp_ret ?_
  refine bodyPost_ret (results_tmp rfl _ _ _) A.2 ⟨⟨fp1, (r m), _, _, _, (nn m + 1), (wo S ((nn m : Nat) : Int)), ?_, FR1, (by rw [up_self r m]; exact FK2), FO, hB2, by omega, Frf, fun g hg => Or.inl hg, Fsub, FS1⟩, BB⟩
  show Ending.returned (a.eval (.tmp 8)) = _
  rw [t8]
set_option maxRecDepth 100000 in
set_option maxHeartbeats 4000000 in
/-- played. -/
theorem ply_x (v : Value) (F : Nat → Prop) (kb m : Nat) (r : Nat → Value) (nn : Nat → Nat) (p q : Nat → Int) (l : Nat) (S : Its) (kd wh i x : Int) (U V : World) (hUV : Below U.heap.size U V) (hR : BR 66 V F v S (nn m)) (hK : V.heap[kb]? = some (.cells (b3 r nn) 35)) (hm : m < 3) (own : V.ownsRow U.heap.size 69 2 (r m) l (pL l p q)) (hB : Bk p q l (nn m) S) (hl : l ≤ 4398046511104) (hr : ∀ g, (r m).ownBlock = some g → ¬ F g) (hk0 : ¬ kd = 0) (hk1 : ¬ kd = 1) :
    Calls Try.prog 10 #[v, .pointer (some ⟨kb, m * 2, none⟩), .agg (xC kd wh i x), .bool false] V fun e w' => Plyd U V F v kb m r nn l e w' ∧ Below U.heap.size U w' := by
  have hn0 := hB.len
  go_enter Try.func10, Try.ntmps10
  refine wo_ 107 [(0, v), (1, .pointer (some ⟨kb, m * 2, none⟩)), (2, .agg (xC kd wh i x)), (3, .bool false)] ?_
  rintro a A ⟨t0, t1, t2, t3, -⟩
  have BB := hUV
  have FK := hK
  have FR := hR
  have FO := own
  have FXs := Saved.refl (Gm F kb (r m)) V
  refine wp_seq ?_
  obtain ⟨g6, egg6⟩ : ∃ z_ : Nat, V.heap.size = z_ := ⟨_, rfl⟩
  refine wi_ A (h4_ t0 t1 t2 t3) (rs_ 0 (fun a ee => ?_))
  refine stepV rfl rfl (execBxX rfl (ee _)) ⟨.pointer (some ⟨g6, 0, none⟩), ⟨_, rfl, by subst egg6; rfl⟩, fun X0 hX => ?_⟩
  have bQ : Below V.heap.size V X0 := by subst hX egg6; exact (belNew V _)
  have Fg6 : (X0.heap[g6]? = some (.cells (xC kd wh i x) 29)) := by subst hX egg6; exact heapNew V _
  have Fo6 : (¬ F g6) := by subst hX egg6; exact fun h => Nat.lt_irrefl _ (FR.lt _ h)
  replace FR := (FR.on bQ)
  replace FK := (on9 FK bQ)
  replace FO := (ownD_below FO bQ)
  replace FXs := (sv_on FXs bQ)
  replace BB := BB.trans (bQ.mono BB.size)
  clear bQ hX egg6 ee a
  refine rf_ [(6, .pointer (some ⟨g6, 0, none⟩))] (h3_ t0 t1 t3) ?_
  rintro a A ⟨t6, -⟩ ⟨t0, t1, t3, -⟩
  refine wp_seq ?_
  refine wp_seq ?_
  refine wi_ A (h4_ t0 t1 t3 t6) (rv_ 0 (.pointer (some ⟨g6, 0, none⟩)) (fun a ee => execFzX0 rfl (ee _)) (rv_ 1 (.int .i64 kd) (fun a ee => execL20 rfl (Or.inl rfl) (ee _) (xC_at Fg6).1) (rf_ [(15, .int .i64 kd)] (h4_ t0 t1 t3 t6) ?_)))
  rintro a A ⟨t15, -⟩ ⟨t0, t1, t3, t6, -⟩
  refine wp_block ?_
  refine wp_seq ?_
  refine wi_ A (h5_ t0 t1 t3 t6 t15) (rv_ 0 (.bool false) (fun a ee => execDec (exIeql3 (p := kd) (q := 0) rfl (ee _) rfl) (decide_eq_false hk0)) (rf_ [(16, .bool false)] (h5_ t0 t1 t3 t6 t15) ?_))
  rintro a A ⟨t16, -⟩ ⟨t0, t1, t3, t6, t15, -⟩
  refine wp_cond_false t16 ?_
  clear t16
  refine wp_seq ?_
  refine wi_ A (h5_ t0 t1 t3 t6 t15) (rv_ 0 (.bool false) (fun a ee => execDec (exIeql3 (p := kd) (q := 1) rfl (ee _) rfl) (decide_eq_false hk1)) (rf_ [(50, .bool false)] (h4_ t0 t1 t3 t6) ?_))
  rintro a A ⟨t50, -⟩ ⟨t0, t1, t3, t6, -⟩
  refine wp_cond_false t50 ?_
  refine wp_skip ?_
  have hL2 := hB.len
  refine wp_seq ?_
  refine wj_ [0, 2, 3, 4, 5, 1, 6, 7, 8, 10, 11, 12, 13, 14, 15, 16, 17, 18, 19, 9, 20, 21, 22] [1, 9] [5, 13, 14, 18] [] A (h4_ t0 t1 t3 t6) (fun X17_0 bD => ?_)
  refine dw_ 3 (.pointer (some ⟨kb, m * 2, none⟩)) (fun a X ee => execNl20 rfl (ee _)) (dw_ 4 (.pointer (some ⟨kb, m * 2 + 1, none⟩)) (fun a X ee => execFqK1 rfl (ee _)) (dv_ 5 (.int .i64 ((nn m : Nat) : Int)) (fun a X ee hb => execL20 rfl (Or.inl rfl) (ee _) (b3_at (on9 FK hb) hm).2) (dc_ 1 (patI (FR.on bD)) (cb_ fun X17_1 bQ => ?_))))
  replace bD := bD.trans (bQ.mono bD.size)
  clear bQ
  refine ⟨Or.inr bD, ?_⟩
  refine dw_ 6 (.bool true) (fun a X ee => execDec (exIeql3 (p := ((nn m : Nat) : Int)) (q := ((nn m : Nat) : Int)) rfl (ee _) (ee _)) (decide_eq_true rfl)) (dw_ 11 (.pointer (some ⟨kb, m * 2, none⟩)) (fun a X ee => execNl20 rfl (ee _)) (dw_ 12 (.pointer (some ⟨kb, m * 2, none⟩)) (fun a X ee => execFqK0 rfl (ee _)) (dv_ 13 (r m) (fun a X ee hb => execL20 rfl (Or.inr (Or.inr (Or.inr (Or.inr (Or.inl rfl))))) (ee _) (b3_at (on9 FK hb) hm).1) (dv_ 14 (.int .i64 ((l : Nat) : Int)) (fun a X ee hb => execLnP (len := l) rfl (Or.inl rfl) (ee _) (own_shp (ownD_below FO hb))) (dw_ 16 (.pointer (some ⟨kb, m * 2, none⟩)) (fun a X ee => execNl20 rfl (ee _)) (dw_ 17 (.pointer (some ⟨kb, m * 2 + 1, none⟩)) (fun a X ee => execFqK1 rfl (ee _)) (dv_ 18 (.int .i64 ((nn m : Nat) : Int)) (fun a X ee hb => execL20 rfl (Or.inl rfl) (ee _) (b3_at (on9 FK hb) hm).2) (dw_ 19 (.int .i64 ((l - (nn m) : Nat) : Int)) (fun a X ee => By8.execSubI (p := l) (q := nn m) rfl (ee _) (ee _) (by omega) (by omega)) (dc_ 9 (pheldI (FR.on bD)) (cb_ fun X17 bQ => ?_))))))))))
  replace bD := bD.trans (bQ.mono bD.size)
  clear bQ
  refine ⟨Or.inr bD, ?_⟩
  refine dw_ 20 (.bool true) (fun a X ee => execDec (exIeql3 (p := ((S.length : Nat) : Int)) (q := ((l - (nn m) : Nat) : Int)) rfl (ee _) (ee _)) (decide_eq_true (by omega))) (dy_ [(8, .bool true)] ?_)
  rintro a A ⟨t8, -⟩
  replace FR := (FR.on bD)
  replace FK := (on9 FK bD)
  replace FO := (ownD_below FO bD)
  replace FXs := (sv_on FXs bD)
  replace Fg6 := (on9 Fg6 bD)
  replace BB := BB.trans (bD.mono BB.size)
  clear bD
  refine wp_ret ?_
  refine bodyPost_ret (results_tmp rfl _ _ _) A.2 ⟨⟨F, (r m), _, _, _, (nn m), S, ?_, FR, (by rw [up_self nn m, up_self r m]; exact FK), FO, hB, by omega, hr, fun g hg => Or.inl hg, fun q hq => Or.inl hq, FXs⟩, BB⟩
  show Ending.returned (a.eval (.tmp 8)) = _
  rw [t8]
set_option maxRecDepth 100000 in
set_option maxHeartbeats 4000000 in
/-- played. -/
theorem ply_na (kb m : Nat) (r : Nat → Value) (nn : Nat → Nat) (kd wh i x : Int) (U V : World) (hUV : Below U.heap.size U V) (hK : V.heap[kb]? = some (.cells (b3 r nn) 35)) (hm : m < 3) (hrm : r m = .slice none 0 0) (hnm : nn m = 0) (hk0 : kd = 0) (h0 : i < 0) :
    Calls Try.prog 10 #[.pointer none, .pointer (some ⟨kb, m * 2, none⟩), .agg (xC kd wh i x), .bool true] V fun e w' => e = .returned (.bool true) ∧ Below U.heap.size U w' := by
  go_enter Try.func10, Try.ntmps10
  refine wo_ 107 [(0, .pointer none), (1, .pointer (some ⟨kb, m * 2, none⟩)), (2, .agg (xC kd wh i x)), (3, .bool true)] ?_
  rintro a A ⟨t0, t1, t2, t3, -⟩
  have BB := hUV
  have FK := hK
  refine wp_seq ?_
  obtain ⟨g6, egg6⟩ : ∃ z_ : Nat, V.heap.size = z_ := ⟨_, rfl⟩
  refine wi_ A (h4_ t0 t1 t2 t3) (rs_ 0 (fun a ee => ?_))
  refine stepV rfl rfl (execBxX rfl (ee _)) ⟨.pointer (some ⟨g6, 0, none⟩), ⟨_, rfl, by subst egg6; rfl⟩, fun X0 hX => ?_⟩
  have bQ : Below V.heap.size V X0 := by subst hX egg6; exact (belNew V _)
  have Fg6 : (X0.heap[g6]? = some (.cells (xC kd wh i x) 29)) := by subst hX egg6; exact heapNew V _
  replace FK := (on9 FK bQ)
  replace BB := BB.trans (bQ.mono BB.size)
  clear bQ hX egg6 ee a
  refine rf_ [(6, .pointer (some ⟨g6, 0, none⟩))] (h3_ t0 t1 t3) ?_
  rintro a A ⟨t6, -⟩ ⟨t0, t1, t3, -⟩
  refine wp_seq ?_
  refine wp_seq ?_
  refine wi_ A (h4_ t0 t1 t3 t6) (rv_ 0 (.pointer (some ⟨g6, 0, none⟩)) (fun a ee => execFzX0 rfl (ee _)) (rv_ 1 (.int .i64 kd) (fun a ee => execL20 rfl (Or.inl rfl) (ee _) (xC_at Fg6).1) (rf_ [(15, .int .i64 kd)] (h4_ t0 t1 t3 t6) ?_)))
  rintro a A ⟨t15, -⟩ ⟨t0, t1, t3, t6, -⟩
  refine wp_block ?_
  refine wp_seq ?_
  refine wi_ A (h5_ t0 t1 t3 t6 t15) (rv_ 0 (.bool true) (fun a ee => execDec (exIeql3 (p := kd) (q := 0) rfl (ee _) rfl) (decide_eq_true hk0)) (rf_ [(16, .bool true)] (h5_ t0 t1 t3 t6 t15) ?_))
  rintro a A ⟨t16, -⟩ ⟨t0, t1, t3, t6, t15, -⟩
  refine wp_cond_true t16 ?_
  clear t16
  refine wp_seq ?_
  refine wj_ [0, 1, 2, 3, 4, 5, 6, 7] [6] [3, 5] [] A (h5_ t0 t1 t3 t6 t15) (fun X3_0 bD => ?_)
  refine dw_ 1 (.pointer (some ⟨kb, m * 2, none⟩)) (fun a X ee => execNl20 rfl (ee _)) (dw_ 2 (.pointer (some ⟨kb, m * 2, none⟩)) (fun a X ee => execFqK0 rfl (ee _)) (dv_ 3 (r m) (fun a X ee hb => execL20 rfl (Or.inr (Or.inr (Or.inr (Or.inr (Or.inl rfl))))) (ee _) (b3_at (on9 FK hb) hm).1) (dw_ 4 (.pointer (some ⟨g6, 2, none⟩)) (fun a X ee => execFzX2 rfl (ee _)) (dv_ 5 (.int .i64 i) (fun a X ee hb => execL20 rfl (Or.inl rfl) (ee _) (xC_at (on9 Fg6 hb)).2.2.1) (dc_ 6 (radd_a _ i X3_0 h0) (cb_ fun X3 bQ => ?_))))))
  replace bD := bD.trans (bQ.mono bD.size)
  clear bQ
  refine ⟨Or.inr bD, ?_⟩
  refine dz_ [(9, .int .i64 ((2 : Nat) : Int))] (h4_ t0 t1 t3 t6) ?_
  rintro a A ⟨t9, -⟩ ⟨t0, t1, t3, t6, -⟩
  replace FK := (on9 FK bD)
  replace Fg6 := (on9 Fg6 bD)
  replace BB := BB.trans (bD.mono BB.size)
  clear bD
  refine wp_seq ?_
  refine wp_seq ?_
  refine wi_ A (h5_ t0 t1 t3 t6 t9) (rf_ [(25, .bool true)] (h5_ t0 t1 t3 t6 t9) ?_)
  rintro a A ⟨t25, -⟩ ⟨t0, t1, t3, t6, t9, -⟩
  refine wp_cond_true t25 ?_
  clear t25
  refine wi_ A (h5_ t0 t1 t3 t6 t9) (rf_ [(9, .int .i64 ((2 : Nat) : Int))] (h4_ t0 t1 t3 t6) ?_)
  rintro a A ⟨t9, -⟩ ⟨t0, t1, t3, t6, -⟩
  refine wp_seq ?_
  refine wp_seq ?_
  refine wi_ A (h5_ t0 t1 t3 t6 t9) (rv_ 1 (.pointer (some ⟨g6, 2, none⟩)) (fun a ee => execFzX2 rfl (ee _)) (rv_ 2 (.int .i64 i) (fun a ee => execL20 rfl (Or.inl rfl) (ee _) (xC_at Fg6).2.2.1) (rv_ 3 (.pointer (some ⟨g6, 3, none⟩)) (fun a ee => execFzX3 rfl (ee _)) (rv_ 4 (.int .i64 x) (fun a ee => execL20 rfl (Or.inl rfl) (ee _) (xC_at Fg6).2.2.2) (rc_ 5 (pput_nI i (.int .i64 x) X3) (cb_ fun X6 bQ => ?_))))))
  replace FK := (on9 FK bQ)
  replace Fg6 := (on9 Fg6 bQ)
  replace BB := BB.trans (bQ.mono BB.size)
  clear bQ
  refine rv_ 7 (.bool false) (fun a ee => execDec (exIneq3 (p := ((2 : Nat) : Int)) (q := ((2 : Nat) : Int)) rfl (ee _) (ee _)) (decide_eq_false (fun h => h rfl))) (rf_ [(33, .bool false)] (h5_ t0 t1 t3 t6 t9) ?_)
  rintro a A ⟨t33, -⟩ ⟨t0, t1, t3, t6, t9, -⟩
  refine wp_cond_false t33 ?_
  refine wp_skip ?_
  clear t33
  refine wp_seq ?_
  refine wi_ A (h5_ t0 t1 t3 t6 t9) (rv_ 1 (.bool false) (fun a ee => execDec (exIeql3 (p := ((2 : Nat) : Int)) (q := 0) rfl (ee _) rfl) (decide_eq_false (by decide))) (rf_ [(35, .bool false)] (h4_ t0 t1 t3 t6) ?_))
  rintro a A ⟨t35, -⟩ ⟨t0, t1, t3, t6, -⟩
  refine wp_cond_false t35 ?_
  refine wp_skip ?_
  refine wp_seq ?_
  refine wj_ [0, 2, 3, 4, 5, 1, 6, 7, 8, 10, 11, 12, 13, 14, 15, 16, 17, 18, 19, 9, 20, 21, 22] [1, 9] [5, 13, 18] [] A (h4_ t0 t1 t3 t6) (fun X17_0 bD => ?_)
  refine dw_ 3 (.pointer (some ⟨kb, m * 2, none⟩)) (fun a X ee => execNl20 rfl (ee _)) (dw_ 4 (.pointer (some ⟨kb, m * 2 + 1, none⟩)) (fun a X ee => execFqK1 rfl (ee _)) (dv_ 5 (.int .i64 ((nn m : Nat) : Int)) (fun a X ee hb => execL20 rfl (Or.inl rfl) (ee _) (b3_at (on9 FK hb) hm).2) (dc_ 1 (patnI X17_0) (cb_ fun X17_1 bQ => ?_))))
  replace bD := bD.trans (bQ.mono bD.size)
  clear bQ
  refine ⟨Or.inr bD, ?_⟩
  refine dw_ 6 (.bool true) (fun a X ee => execDec (exIeql3 (p := ((0 : Nat) : Int)) (q := ((nn m : Nat) : Int)) rfl (ee _) (ee _)) (decide_eq_true (by omega))) (dw_ 11 (.pointer (some ⟨kb, m * 2, none⟩)) (fun a X ee => execNl20 rfl (ee _)) (dw_ 12 (.pointer (some ⟨kb, m * 2, none⟩)) (fun a X ee => execFqK0 rfl (ee _)) (dv_ 13 (r m) (fun a X ee hb => execL20 rfl (Or.inr (Or.inr (Or.inr (Or.inr (Or.inl rfl))))) (ee _) (b3_at (on9 FK hb) hm).1) (dw_ 14 (.int .i64 ((0 : Nat) : Int)) (fun a X ee => execLnP (len := 0) rfl (Or.inl rfl) (ee _) ⟨_, _, hrm⟩) (dw_ 16 (.pointer (some ⟨kb, m * 2, none⟩)) (fun a X ee => execNl20 rfl (ee _)) (dw_ 17 (.pointer (some ⟨kb, m * 2 + 1, none⟩)) (fun a X ee => execFqK1 rfl (ee _)) (dv_ 18 (.int .i64 ((nn m : Nat) : Int)) (fun a X ee hb => execL20 rfl (Or.inl rfl) (ee _) (b3_at (on9 FK hb) hm).2) (dw_ 19 (.int .i64 ((0 - (nn m) : Nat) : Int)) (fun a X ee => By8.execSubI (p := 0) (q := nn m) rfl (ee _) (ee _) (by omega) (by omega)) (dc_ 9 (pheldnI X17_1) (cb_ fun X17 bQ => ?_))))))))))
  replace bD := bD.trans (bQ.mono bD.size)
  clear bQ
  refine ⟨Or.inr bD, ?_⟩
  refine dw_ 20 (.bool true) (fun a X ee => execDec (exIeql3 (p := ((0 : Nat) : Int)) (q := ((0 - (nn m) : Nat) : Int)) rfl (ee _) (ee _)) (decide_eq_true (by omega))) (dy_ [(8, .bool true)] ?_)
  rintro a A ⟨t8, -⟩
  replace FK := (on9 FK bD)
  replace Fg6 := (on9 Fg6 bD)
  replace BB := BB.trans (bD.mono BB.size)
  clear bD
  refine wp_ret ?_
  refine bodyPost_ret (results_tmp rfl _ _ _) A.2 ⟨?_, BB⟩
  show Ending.returned (a.eval (.tmp 8)) = _
  rw [t8]
set_option maxRecDepth 100000 in
set_option maxHeartbeats 4000000 in
/-- played. -/
theorem ply_no (kb m : Nat) (r : Nat → Value) (nn : Nat → Nat) (kd wh i x : Int) (U V : World) (hUV : Below U.heap.size U V) (hK : V.heap[kb]? = some (.cells (b3 r nn) 35)) (hm : m < 3) (hrm : r m = .slice none 0 0) (hnm : nn m = 0) (hk0 : kd = 0) (h0 : ¬ i < 0) :
    Calls Try.prog 10 #[.pointer none, .pointer (some ⟨kb, m * 2, none⟩), .agg (xC kd wh i x), .bool true] V fun e w' => e = .returned (.bool true) ∧ Below U.heap.size U w' := by
  go_enter Try.func10, Try.ntmps10
  refine wo_ 107 [(0, .pointer none), (1, .pointer (some ⟨kb, m * 2, none⟩)), (2, .agg (xC kd wh i x)), (3, .bool true)] ?_
  rintro a A ⟨t0, t1, t2, t3, -⟩
  have BB := hUV
  have FK := hK
  refine wp_seq ?_
  obtain ⟨g6, egg6⟩ : ∃ z_ : Nat, V.heap.size = z_ := ⟨_, rfl⟩
  refine wi_ A (h4_ t0 t1 t2 t3) (rs_ 0 (fun a ee => ?_))
  refine stepV rfl rfl (execBxX rfl (ee _)) ⟨.pointer (some ⟨g6, 0, none⟩), ⟨_, rfl, by subst egg6; rfl⟩, fun X0 hX => ?_⟩
  have bQ : Below V.heap.size V X0 := by subst hX egg6; exact (belNew V _)
  have Fg6 : (X0.heap[g6]? = some (.cells (xC kd wh i x) 29)) := by subst hX egg6; exact heapNew V _
  replace FK := (on9 FK bQ)
  replace BB := BB.trans (bQ.mono BB.size)
  clear bQ hX egg6 ee a
  refine rf_ [(6, .pointer (some ⟨g6, 0, none⟩))] (h3_ t0 t1 t3) ?_
  rintro a A ⟨t6, -⟩ ⟨t0, t1, t3, -⟩
  refine wp_seq ?_
  refine wp_seq ?_
  refine wi_ A (h4_ t0 t1 t3 t6) (rv_ 0 (.pointer (some ⟨g6, 0, none⟩)) (fun a ee => execFzX0 rfl (ee _)) (rv_ 1 (.int .i64 kd) (fun a ee => execL20 rfl (Or.inl rfl) (ee _) (xC_at Fg6).1) (rf_ [(15, .int .i64 kd)] (h4_ t0 t1 t3 t6) ?_)))
  rintro a A ⟨t15, -⟩ ⟨t0, t1, t3, t6, -⟩
  refine wp_block ?_
  refine wp_seq ?_
  refine wi_ A (h5_ t0 t1 t3 t6 t15) (rv_ 0 (.bool true) (fun a ee => execDec (exIeql3 (p := kd) (q := 0) rfl (ee _) rfl) (decide_eq_true hk0)) (rf_ [(16, .bool true)] (h5_ t0 t1 t3 t6 t15) ?_))
  rintro a A ⟨t16, -⟩ ⟨t0, t1, t3, t6, t15, -⟩
  refine wp_cond_true t16 ?_
  clear t16
  refine wp_seq ?_
  refine wj_ [0, 1, 2, 3, 4, 5, 6, 7] [6] [3, 5] [] A (h5_ t0 t1 t3 t6 t15) (fun X3_0 bD => ?_)
  refine dw_ 1 (.pointer (some ⟨kb, m * 2, none⟩)) (fun a X ee => execNl20 rfl (ee _)) (dw_ 2 (.pointer (some ⟨kb, m * 2, none⟩)) (fun a X ee => execFqK0 rfl (ee _)) (dv_ 3 (r m) (fun a X ee hb => execL20 rfl (Or.inr (Or.inr (Or.inr (Or.inr (Or.inl rfl))))) (ee _) (b3_at (on9 FK hb) hm).1) (dw_ 4 (.pointer (some ⟨g6, 2, none⟩)) (fun a X ee => execFzX2 rfl (ee _)) (dv_ 5 (.int .i64 i) (fun a X ee hb => execL20 rfl (Or.inl rfl) (ee _) (xC_at (on9 Fg6 hb)).2.2.1) (dc_ 6 (radd_o _ 0 (fun _ => 0) (fun _ => 0) i X3_0 ⟨_, _, hrm, fun h => absurd h (Nat.lt_irrefl _)⟩ h0 (fun j hj => absurd hj (Nat.not_lt_zero j)) (by omega)) (cb_ fun X3 bQ => ?_))))))
  replace bD := bD.trans (bQ.mono bD.size)
  clear bQ
  refine ⟨Or.inr bD, ?_⟩
  refine dz_ [(9, .int .i64 ((0 : Nat) : Int))] (h4_ t0 t1 t3 t6) ?_
  rintro a A ⟨t9, -⟩ ⟨t0, t1, t3, t6, -⟩
  replace FK := (on9 FK bD)
  replace Fg6 := (on9 Fg6 bD)
  replace BB := BB.trans (bD.mono BB.size)
  clear bD
  refine wp_seq ?_
  refine wp_seq ?_
  refine wi_ A (h5_ t0 t1 t3 t6 t9) (rf_ [(25, .bool true)] (h5_ t0 t1 t3 t6 t9) ?_)
  rintro a A ⟨t25, -⟩ ⟨t0, t1, t3, t6, t9, -⟩
  refine wp_cond_true t25 ?_
  clear t25
  refine wi_ A (h5_ t0 t1 t3 t6 t9) (rf_ [(9, .int .i64 ((2 : Nat) : Int))] (h4_ t0 t1 t3 t6) ?_)
  rintro a A ⟨t9, -⟩ ⟨t0, t1, t3, t6, -⟩
  refine wp_seq ?_
  refine wp_seq ?_
  refine wi_ A (h5_ t0 t1 t3 t6 t9) (rv_ 1 (.pointer (some ⟨g6, 2, none⟩)) (fun a ee => execFzX2 rfl (ee _)) (rv_ 2 (.int .i64 i) (fun a ee => execL20 rfl (Or.inl rfl) (ee _) (xC_at Fg6).2.2.1) (rv_ 3 (.pointer (some ⟨g6, 3, none⟩)) (fun a ee => execFzX3 rfl (ee _)) (rv_ 4 (.int .i64 x) (fun a ee => execL20 rfl (Or.inl rfl) (ee _) (xC_at Fg6).2.2.2) (rc_ 5 (pput_nI i (.int .i64 x) X3) (cb_ fun X6 bQ => ?_))))))
  replace FK := (on9 FK bQ)
  replace Fg6 := (on9 Fg6 bQ)
  replace BB := BB.trans (bQ.mono BB.size)
  clear bQ
  refine rv_ 7 (.bool false) (fun a ee => execDec (exIneq3 (p := ((2 : Nat) : Int)) (q := ((2 : Nat) : Int)) rfl (ee _) (ee _)) (decide_eq_false (fun h => h rfl))) (rf_ [(33, .bool false)] (h5_ t0 t1 t3 t6 t9) ?_)
  rintro a A ⟨t33, -⟩ ⟨t0, t1, t3, t6, t9, -⟩
  refine wp_cond_false t33 ?_
  refine wp_skip ?_
  clear t33
  refine wp_seq ?_
  refine wi_ A (h5_ t0 t1 t3 t6 t9) (rv_ 1 (.bool false) (fun a ee => execDec (exIeql3 (p := ((2 : Nat) : Int)) (q := 0) rfl (ee _) rfl) (decide_eq_false (by decide))) (rf_ [(35, .bool false)] (h4_ t0 t1 t3 t6) ?_))
  rintro a A ⟨t35, -⟩ ⟨t0, t1, t3, t6, -⟩
  refine wp_cond_false t35 ?_
  refine wp_skip ?_
  refine wp_seq ?_
  refine wj_ [0, 2, 3, 4, 5, 1, 6, 7, 8, 10, 11, 12, 13, 14, 15, 16, 17, 18, 19, 9, 20, 21, 22] [1, 9] [5, 13, 18] [] A (h4_ t0 t1 t3 t6) (fun X17_0 bD => ?_)
  refine dw_ 3 (.pointer (some ⟨kb, m * 2, none⟩)) (fun a X ee => execNl20 rfl (ee _)) (dw_ 4 (.pointer (some ⟨kb, m * 2 + 1, none⟩)) (fun a X ee => execFqK1 rfl (ee _)) (dv_ 5 (.int .i64 ((nn m : Nat) : Int)) (fun a X ee hb => execL20 rfl (Or.inl rfl) (ee _) (b3_at (on9 FK hb) hm).2) (dc_ 1 (patnI X17_0) (cb_ fun X17_1 bQ => ?_))))
  replace bD := bD.trans (bQ.mono bD.size)
  clear bQ
  refine ⟨Or.inr bD, ?_⟩
  refine dw_ 6 (.bool true) (fun a X ee => execDec (exIeql3 (p := ((0 : Nat) : Int)) (q := ((nn m : Nat) : Int)) rfl (ee _) (ee _)) (decide_eq_true (by omega))) (dw_ 11 (.pointer (some ⟨kb, m * 2, none⟩)) (fun a X ee => execNl20 rfl (ee _)) (dw_ 12 (.pointer (some ⟨kb, m * 2, none⟩)) (fun a X ee => execFqK0 rfl (ee _)) (dv_ 13 (r m) (fun a X ee hb => execL20 rfl (Or.inr (Or.inr (Or.inr (Or.inr (Or.inl rfl))))) (ee _) (b3_at (on9 FK hb) hm).1) (dw_ 14 (.int .i64 ((0 : Nat) : Int)) (fun a X ee => execLnP (len := 0) rfl (Or.inl rfl) (ee _) ⟨_, _, hrm⟩) (dw_ 16 (.pointer (some ⟨kb, m * 2, none⟩)) (fun a X ee => execNl20 rfl (ee _)) (dw_ 17 (.pointer (some ⟨kb, m * 2 + 1, none⟩)) (fun a X ee => execFqK1 rfl (ee _)) (dv_ 18 (.int .i64 ((nn m : Nat) : Int)) (fun a X ee hb => execL20 rfl (Or.inl rfl) (ee _) (b3_at (on9 FK hb) hm).2) (dw_ 19 (.int .i64 ((0 - (nn m) : Nat) : Int)) (fun a X ee => By8.execSubI (p := 0) (q := nn m) rfl (ee _) (ee _) (by omega) (by omega)) (dc_ 9 (pheldnI X17_1) (cb_ fun X17 bQ => ?_))))))))))
  replace bD := bD.trans (bQ.mono bD.size)
  clear bQ
  refine ⟨Or.inr bD, ?_⟩
  refine dw_ 20 (.bool true) (fun a X ee => execDec (exIeql3 (p := ((0 : Nat) : Int)) (q := ((0 - (nn m) : Nat) : Int)) rfl (ee _) (ee _)) (decide_eq_true (by omega))) (dy_ [(8, .bool true)] ?_)
  rintro a A ⟨t8, -⟩
  replace FK := (on9 FK bD)
  replace Fg6 := (on9 Fg6 bD)
  replace BB := BB.trans (bD.mono BB.size)
  clear bD
  refine wp_ret ?_
  refine bodyPost_ret (results_tmp rfl _ _ _) A.2 ⟨?_, BB⟩
  show Ending.returned (a.eval (.tmp 8)) = _
  rw [t8]
set_option maxRecDepth 100000 in
set_option maxHeartbeats 4000000 in
/-- played. -/
theorem ply_ne (kb m : Nat) (r : Nat → Value) (nn : Nat → Nat) (kd wh i x : Int) (U V : World) (hUV : Below U.heap.size U V) (hK : V.heap[kb]? = some (.cells (b3 r nn) 35)) (hm : m < 3) (hrm : r m = .slice none 0 0) (hnm : nn m = 0) (hk0 : ¬ kd = 0) (hk1 : kd = 1) :
    Calls Try.prog 10 #[.pointer none, .pointer (some ⟨kb, m * 2, none⟩), .agg (xC kd wh i x), .bool true] V fun e w' => e = .returned (.bool true) ∧ Below U.heap.size U w' := by
  go_enter Try.func10, Try.ntmps10
  refine wo_ 107 [(0, .pointer none), (1, .pointer (some ⟨kb, m * 2, none⟩)), (2, .agg (xC kd wh i x)), (3, .bool true)] ?_
  rintro a A ⟨t0, t1, t2, t3, -⟩
  have BB := hUV
  have FK := hK
  refine wp_seq ?_
  obtain ⟨g6, egg6⟩ : ∃ z_ : Nat, V.heap.size = z_ := ⟨_, rfl⟩
  refine wi_ A (h4_ t0 t1 t2 t3) (rs_ 0 (fun a ee => ?_))
  refine stepV rfl rfl (execBxX rfl (ee _)) ⟨.pointer (some ⟨g6, 0, none⟩), ⟨_, rfl, by subst egg6; rfl⟩, fun X0 hX => ?_⟩
  have bQ : Below V.heap.size V X0 := by subst hX egg6; exact (belNew V _)
  have Fg6 : (X0.heap[g6]? = some (.cells (xC kd wh i x) 29)) := by subst hX egg6; exact heapNew V _
  replace FK := (on9 FK bQ)
  replace BB := BB.trans (bQ.mono BB.size)
  clear bQ hX egg6 ee a
  refine rf_ [(6, .pointer (some ⟨g6, 0, none⟩))] (h3_ t0 t1 t3) ?_
  rintro a A ⟨t6, -⟩ ⟨t0, t1, t3, -⟩
  refine wp_seq ?_
  refine wp_seq ?_
  refine wi_ A (h4_ t0 t1 t3 t6) (rv_ 0 (.pointer (some ⟨g6, 0, none⟩)) (fun a ee => execFzX0 rfl (ee _)) (rv_ 1 (.int .i64 kd) (fun a ee => execL20 rfl (Or.inl rfl) (ee _) (xC_at Fg6).1) (rf_ [(15, .int .i64 kd)] (h4_ t0 t1 t3 t6) ?_)))
  rintro a A ⟨t15, -⟩ ⟨t0, t1, t3, t6, -⟩
  refine wp_block ?_
  refine wp_seq ?_
  refine wi_ A (h5_ t0 t1 t3 t6 t15) (rv_ 0 (.bool false) (fun a ee => execDec (exIeql3 (p := kd) (q := 0) rfl (ee _) rfl) (decide_eq_false hk0)) (rf_ [(16, .bool false)] (h5_ t0 t1 t3 t6 t15) ?_))
  rintro a A ⟨t16, -⟩ ⟨t0, t1, t3, t6, t15, -⟩
  refine wp_cond_false t16 ?_
  clear t16
  refine wp_seq ?_
  refine wi_ A (h5_ t0 t1 t3 t6 t15) (rv_ 0 (.bool true) (fun a ee => execDec (exIeql3 (p := kd) (q := 1) rfl (ee _) rfl) (decide_eq_true hk1)) (rf_ [(50, .bool true)] (h4_ t0 t1 t3 t6) ?_))
  rintro a A ⟨t50, -⟩ ⟨t0, t1, t3, t6, -⟩
  refine wp_cond_true t50 ?_
  clear t50
  refine wp_seq ?_
  refine wi_ A (h4_ t0 t1 t3 t6) (rc_ 1 (pnext_nI X0) (cb_ fun X11 bQ => ?_))
  replace FK := (on9 FK bQ)
  replace Fg6 := (on9 Fg6 bQ)
  replace BB := BB.trans (bQ.mono BB.size)
  clear bQ
  refine rf_ [(10, .int .i64 ((0 : Nat) : Int)), (11, .bool false)] (h4_ t0 t1 t3 t6) ?_
  rintro a A ⟨t10, t11, -⟩ ⟨t0, t1, t3, t6, -⟩
  refine wp_seq ?_
  refine wj_ [0, 1, 2, 3, 4, 5, 6, 7, 8, 9, 10, 11, 12, 13] [8] [3, 7] [] A (h6_ t0 t1 t3 t6 t10 t11) (fun X12_0 bD => ?_)
  refine dw_ 1 (.pointer (some ⟨kb, m * 2, none⟩)) (fun a X ee => execNl20 rfl (ee _)) (dw_ 2 (.pointer (some ⟨kb, m * 2, none⟩)) (fun a X ee => execFqK0 rfl (ee _)) (dv_ 3 (r m) (fun a X ee hb => execL20 rfl (Or.inr (Or.inr (Or.inr (Or.inr (Or.inl rfl))))) (ee _) (b3_at (on9 FK hb) hm).1) (dw_ 5 (.pointer (some ⟨kb, m * 2, none⟩)) (fun a X ee => execNl20 rfl (ee _)) (dw_ 6 (.pointer (some ⟨kb, m * 2 + 1, none⟩)) (fun a X ee => execFqK1 rfl (ee _)) (dv_ 7 (.int .i64 ((nn m : Nat) : Int)) (fun a X ee hb => execL20 rfl (Or.inl rfl) (ee _) (b3_at (on9 FK hb) hm).2) (dc_ 8 (rnext_n _ 0 (fun _ => 0) (fun _ => 0) _ X12_0 ⟨_, _, hrm, fun h => absurd h (Nat.lt_irrefl _)⟩ (fun j hj => absurd hj (Nat.not_lt_zero j)) (by omega)) (cb_ fun X12 bQ => ?_)))))))
  replace bD := bD.trans (bQ.mono bD.size)
  clear bQ
  refine ⟨Or.inr bD, ?_⟩
  refine dz_ [(12, .int .i64 ((0 : Nat) : Int)), (13, .bool false)] (h6_ t0 t1 t3 t6 t10 t11) ?_
  rintro a A ⟨t12, t13, -⟩ ⟨t0, t1, t3, t6, t10, t11, -⟩
  replace FK := (on9 FK bD)
  replace Fg6 := (on9 Fg6 bD)
  replace BB := BB.trans (bD.mono BB.size)
  clear bD
  refine wp_seq ?_
  refine wp_seq ?_
  refine wi_ A (h8_ t0 t1 t3 t6 t10 t11 t12 t13) (rv_ 2 (.bool false) (fun a ee => execDec (exIneq3 (p := ((0 : Nat) : Int)) (q := ((0 : Nat) : Int)) rfl (ee _) (ee _)) (decide_eq_false (fun h => h rfl))) (rv_ 6 (.bool false) (fun a ee => execNeBB20 rfl (ee _) (ee _)) (rf_ [(76, .bool false)] (h5_ t0 t1 t3 t6 t11) ?_)))
  rintro a A ⟨t76, -⟩ ⟨t0, t1, t3, t6, t11, -⟩
  refine wp_cond_false t76 ?_
  refine wp_skip ?_
  clear t76
  refine wp_seq ?_
  refine wi_ A (h5_ t0 t1 t3 t6 t11) (rf_ [(77, .bool false)] (h4_ t0 t1 t3 t6) ?_)
  rintro a A ⟨t77, -⟩ ⟨t0, t1, t3, t6, -⟩
  refine wp_cond_false t77 ?_
  refine wp_skip ?_
  refine wp_seq ?_
  refine wj_ [0, 2, 3, 4, 5, 1, 6, 7, 8, 10, 11, 12, 13, 14, 15, 16, 17, 18, 19, 9, 20, 21, 22] [1, 9] [5, 13, 18] [] A (h4_ t0 t1 t3 t6) (fun X17_0 bD => ?_)
  refine dw_ 3 (.pointer (some ⟨kb, m * 2, none⟩)) (fun a X ee => execNl20 rfl (ee _)) (dw_ 4 (.pointer (some ⟨kb, m * 2 + 1, none⟩)) (fun a X ee => execFqK1 rfl (ee _)) (dv_ 5 (.int .i64 ((nn m : Nat) : Int)) (fun a X ee hb => execL20 rfl (Or.inl rfl) (ee _) (b3_at (on9 FK hb) hm).2) (dc_ 1 (patnI X17_0) (cb_ fun X17_1 bQ => ?_))))
  replace bD := bD.trans (bQ.mono bD.size)
  clear bQ
  refine ⟨Or.inr bD, ?_⟩
  refine dw_ 6 (.bool true) (fun a X ee => execDec (exIeql3 (p := ((0 : Nat) : Int)) (q := ((nn m : Nat) : Int)) rfl (ee _) (ee _)) (decide_eq_true (by omega))) (dw_ 11 (.pointer (some ⟨kb, m * 2, none⟩)) (fun a X ee => execNl20 rfl (ee _)) (dw_ 12 (.pointer (some ⟨kb, m * 2, none⟩)) (fun a X ee => execFqK0 rfl (ee _)) (dv_ 13 (r m) (fun a X ee hb => execL20 rfl (Or.inr (Or.inr (Or.inr (Or.inr (Or.inl rfl))))) (ee _) (b3_at (on9 FK hb) hm).1) (dw_ 14 (.int .i64 ((0 : Nat) : Int)) (fun a X ee => execLnP (len := 0) rfl (Or.inl rfl) (ee _) ⟨_, _, hrm⟩) (dw_ 16 (.pointer (some ⟨kb, m * 2, none⟩)) (fun a X ee => execNl20 rfl (ee _)) (dw_ 17 (.pointer (some ⟨kb, m * 2 + 1, none⟩)) (fun a X ee => execFqK1 rfl (ee _)) (dv_ 18 (.int .i64 ((nn m : Nat) : Int)) (fun a X ee hb => execL20 rfl (Or.inl rfl) (ee _) (b3_at (on9 FK hb) hm).2) (dw_ 19 (.int .i64 ((0 - (nn m) : Nat) : Int)) (fun a X ee => By8.execSubI (p := 0) (q := nn m) rfl (ee _) (ee _) (by omega) (by omega)) (dc_ 9 (pheldnI X17_1) (cb_ fun X17 bQ => ?_))))))))))
  replace bD := bD.trans (bQ.mono bD.size)
  clear bQ
  refine ⟨Or.inr bD, ?_⟩
  refine dw_ 20 (.bool true) (fun a X ee => execDec (exIeql3 (p := ((0 : Nat) : Int)) (q := ((0 - (nn m) : Nat) : Int)) rfl (ee _) (ee _)) (decide_eq_true (by omega))) (dy_ [(8, .bool true)] ?_)
  rintro a A ⟨t8, -⟩
  replace FK := (on9 FK bD)
  replace Fg6 := (on9 Fg6 bD)
  replace BB := BB.trans (bD.mono BB.size)
  clear bD
  refine wp_ret ?_
  refine bodyPost_ret (results_tmp rfl _ _ _) A.2 ⟨?_, BB⟩
  show Ending.returned (a.eval (.tmp 8)) = _
  rw [t8]
set_option maxRecDepth 100000 in
set_option maxHeartbeats 4000000 in
/-- played. -/
theorem ply_nx (kb m : Nat) (r : Nat → Value) (nn : Nat → Nat) (kd wh i x : Int) (U V : World) (hUV : Below U.heap.size U V) (hK : V.heap[kb]? = some (.cells (b3 r nn) 35)) (hm : m < 3) (hrm : r m = .slice none 0 0) (hnm : nn m = 0) (hk0 : ¬ kd = 0) (hk1 : ¬ kd = 1) :
    Calls Try.prog 10 #[.pointer none, .pointer (some ⟨kb, m * 2, none⟩), .agg (xC kd wh i x), .bool true] V fun e w' => e = .returned (.bool true) ∧ Below U.heap.size U w' := by
  go_enter Try.func10, Try.ntmps10
  refine wo_ 107 [(0, .pointer none), (1, .pointer (some ⟨kb, m * 2, none⟩)), (2, .agg (xC kd wh i x)), (3, .bool true)] ?_
  rintro a A ⟨t0, t1, t2, t3, -⟩
  have BB := hUV
  have FK := hK
  refine wp_seq ?_
  obtain ⟨g6, egg6⟩ : ∃ z_ : Nat, V.heap.size = z_ := ⟨_, rfl⟩
  refine wi_ A (h4_ t0 t1 t2 t3) (rs_ 0 (fun a ee => ?_))
  refine stepV rfl rfl (execBxX rfl (ee _)) ⟨.pointer (some ⟨g6, 0, none⟩), ⟨_, rfl, by subst egg6; rfl⟩, fun X0 hX => ?_⟩
  have bQ : Below V.heap.size V X0 := by subst hX egg6; exact (belNew V _)
  have Fg6 : (X0.heap[g6]? = some (.cells (xC kd wh i x) 29)) := by subst hX egg6; exact heapNew V _
  replace FK := (on9 FK bQ)
  replace BB := BB.trans (bQ.mono BB.size)
  clear bQ hX egg6 ee a
  refine rf_ [(6, .pointer (some ⟨g6, 0, none⟩))] (h3_ t0 t1 t3) ?_
  rintro a A ⟨t6, -⟩ ⟨t0, t1, t3, -⟩
  refine wp_seq ?_
  refine wp_seq ?_
  refine wi_ A (h4_ t0 t1 t3 t6) (rv_ 0 (.pointer (some ⟨g6, 0, none⟩)) (fun a ee => execFzX0 rfl (ee _)) (rv_ 1 (.int .i64 kd) (fun a ee => execL20 rfl (Or.inl rfl) (ee _) (xC_at Fg6).1) (rf_ [(15, .int .i64 kd)] (h4_ t0 t1 t3 t6) ?_)))
  rintro a A ⟨t15, -⟩ ⟨t0, t1, t3, t6, -⟩
  refine wp_block ?_
  refine wp_seq ?_
  refine wi_ A (h5_ t0 t1 t3 t6 t15) (rv_ 0 (.bool false) (fun a ee => execDec (exIeql3 (p := kd) (q := 0) rfl (ee _) rfl) (decide_eq_false hk0)) (rf_ [(16, .bool false)] (h5_ t0 t1 t3 t6 t15) ?_))
  rintro a A ⟨t16, -⟩ ⟨t0, t1, t3, t6, t15, -⟩
  refine wp_cond_false t16 ?_
  clear t16
  refine wp_seq ?_
  refine wi_ A (h5_ t0 t1 t3 t6 t15) (rv_ 0 (.bool false) (fun a ee => execDec (exIeql3 (p := kd) (q := 1) rfl (ee _) rfl) (decide_eq_false hk1)) (rf_ [(50, .bool false)] (h4_ t0 t1 t3 t6) ?_))
  rintro a A ⟨t50, -⟩ ⟨t0, t1, t3, t6, -⟩
  refine wp_cond_false t50 ?_
  refine wp_skip ?_
  refine wp_seq ?_
  refine wj_ [0, 2, 3, 4, 5, 1, 6, 7, 8, 10, 11, 12, 13, 14, 15, 16, 17, 18, 19, 9, 20, 21, 22] [1, 9] [5, 13, 18] [] A (h4_ t0 t1 t3 t6) (fun X17_0 bD => ?_)
  refine dw_ 3 (.pointer (some ⟨kb, m * 2, none⟩)) (fun a X ee => execNl20 rfl (ee _)) (dw_ 4 (.pointer (some ⟨kb, m * 2 + 1, none⟩)) (fun a X ee => execFqK1 rfl (ee _)) (dv_ 5 (.int .i64 ((nn m : Nat) : Int)) (fun a X ee hb => execL20 rfl (Or.inl rfl) (ee _) (b3_at (on9 FK hb) hm).2) (dc_ 1 (patnI X17_0) (cb_ fun X17_1 bQ => ?_))))
  replace bD := bD.trans (bQ.mono bD.size)
  clear bQ
  refine ⟨Or.inr bD, ?_⟩
  refine dw_ 6 (.bool true) (fun a X ee => execDec (exIeql3 (p := ((0 : Nat) : Int)) (q := ((nn m : Nat) : Int)) rfl (ee _) (ee _)) (decide_eq_true (by omega))) (dw_ 11 (.pointer (some ⟨kb, m * 2, none⟩)) (fun a X ee => execNl20 rfl (ee _)) (dw_ 12 (.pointer (some ⟨kb, m * 2, none⟩)) (fun a X ee => execFqK0 rfl (ee _)) (dv_ 13 (r m) (fun a X ee hb => execL20 rfl (Or.inr (Or.inr (Or.inr (Or.inr (Or.inl rfl))))) (ee _) (b3_at (on9 FK hb) hm).1) (dw_ 14 (.int .i64 ((0 : Nat) : Int)) (fun a X ee => execLnP (len := 0) rfl (Or.inl rfl) (ee _) ⟨_, _, hrm⟩) (dw_ 16 (.pointer (some ⟨kb, m * 2, none⟩)) (fun a X ee => execNl20 rfl (ee _)) (dw_ 17 (.pointer (some ⟨kb, m * 2 + 1, none⟩)) (fun a X ee => execFqK1 rfl (ee _)) (dv_ 18 (.int .i64 ((nn m : Nat) : Int)) (fun a X ee hb => execL20 rfl (Or.inl rfl) (ee _) (b3_at (on9 FK hb) hm).2) (dw_ 19 (.int .i64 ((0 - (nn m) : Nat) : Int)) (fun a X ee => By8.execSubI (p := 0) (q := nn m) rfl (ee _) (ee _) (by omega) (by omega)) (dc_ 9 (pheldnI X17_1) (cb_ fun X17 bQ => ?_))))))))))
  replace bD := bD.trans (bQ.mono bD.size)
  clear bQ
  refine ⟨Or.inr bD, ?_⟩
  refine dw_ 20 (.bool true) (fun a X ee => execDec (exIeql3 (p := ((0 : Nat) : Int)) (q := ((0 - (nn m) : Nat) : Int)) rfl (ee _) (ee _)) (decide_eq_true (by omega))) (dy_ [(8, .bool true)] ?_)
  rintro a A ⟨t8, -⟩
  replace FK := (on9 FK bD)
  replace Fg6 := (on9 Fg6 bD)
  replace BB := BB.trans (bD.mono BB.size)
  clear bD
  refine wp_ret ?_
  refine bodyPost_ret (results_tmp rfl _ _ _) A.2 ⟨?_, BB⟩
  show Ending.returned (a.eval (.tmp 8)) = _
  rw [t8]
end Go.Proofs.Ytnfokemikcigbaa.Ord
