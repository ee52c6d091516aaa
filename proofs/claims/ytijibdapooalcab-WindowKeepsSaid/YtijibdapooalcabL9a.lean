import Derived.Test.YtijibdapooalcabC9x
namespace Go.Proofs.Ytijibdapooalcab.Win
open Go.RowKit Gf8 Aes By8 Cel Cf
/- WindowKeeps: the law's copied. Written by tools/mkL9a.py. -/

/-- Two marks behind a list. -/
def two2 (k : Nat) : Nat → Nat := if k = 0 then (fun _ => 33) else (fun _ => 63)
def mk2 (n : Nat) (t : Nat → Nat → Nat) : Nat → Nat → Nat := catT n t two2
/-- A list of tags in a row of its own that bears two marks behind it. -/
def Mkd (B : Nat) (W : World) (u : Value) (m : Nat) (s : Nat → Nat → Nat) : Prop := ∃ g c, u = .slice (some ⟨g, 0, none⟩) m c ∧ W.ownsRow B 36 16 (.slice (some ⟨g, 0, none⟩) (m + 2) c) (m + 2) (tgV (mk2 m s) (m + 2))
/-- A list of epochs in a row of its own, each list of tags marked. -/
structure CpL (B : Nat) (W : World) (v : Value) (n : Nat) (nu : Nat → Int) (tw : Nat → Value) (ln : Nat → Nat) (t : Nat → Nat → Nat → Nat) : Prop where
  row : W.ownsRow B 47 2 v n (epV nu tw n)
  lists : ∀ j, j < n → Mkd B W (tw j) (ln j) (t j)
  dis : ∀ i j, i < n → j < n → i ≠ j → ∀ b, (tw i).ownBlock = some b → (tw j).ownBlock ≠ some b
section
variable {B n : Nat} {W W' : World} {v : Value} {nu : Nat → Int} {tw : Nat → Value} {ln : Nat → Nat} {t : Nat → Nat → Nat → Nat}
theorem Mkd.on {u : Value} {m : Nat} {s : Nat → Nat → Nat} (h : Mkd B W u m s) (hb : Below W.heap.size W W') : Mkd B W' u m s := by
  obtain ⟨g, c, e, q⟩ := h
  exact ⟨g, c, e, ownE_below q hb⟩
theorem Mkd.base {C : Nat} {u : Value} {m : Nat} {s : Nat → Nat → Nat} (h : Mkd B W u m s) (hC : C ≤ B) : Mkd C W u m s := by
  obtain ⟨g, c, e, q⟩ := h
  exact ⟨g, c, e, ownE_base q hC⟩
theorem Mkd.lt {u : Value} {m : Nat} {s : Nat → Nat → Nat} (h : Mkd B W u m s) : ∀ b, u.ownBlock = some b → B ≤ b ∧ b < W.heap.size := by
  obtain ⟨g, c, rfl, q⟩ := h
  intro b hb
  exact q.lt b hb
theorem Mkd.setT {g : Nat} {c d : Array Value} {u : Value} {m : Nat} {s : Nat → Nat → Nat} {ty : TypeId} (h : Mkd B W u m s) (hg : W.heap[g]? = some (.cells c ty)) (hu : ty ≠ 36) : Mkd B (W.setRow g d) u m s := by
  obtain ⟨k, c2, e, q⟩ := h
  exact ⟨k, c2, e, ownE_setT q hg hu⟩
theorem Mkd.setC {g i : Nat} {c : Array Value} {x u : Value} {m : Nat} {s : Nat → Nat → Nat} {ty : TypeId} (h : Mkd B W u m s) (hg : W.heap[g]? = some (.cells c ty)) (hu : ty ≠ 36) : Mkd B (W.setCell ⟨g, i, none⟩ x) u m s := by
  obtain ⟨k, c2, e, q⟩ := h
  exact ⟨k, c2, e, ownE_setC q hg hu⟩
theorem Mkd.overE {B2 n2 : Nat} {u w : Value} {m : Nat} {s : Nat → Nat → Nat} {ys : List Value} (h : Mkd B W u m s) (hu : W.ownsRow B2 47 2 w n2 ys) (gr : W.grownBy W' w.ownBlock) : Mkd B W' u m s := by
  obtain ⟨k, c2, e, q⟩ := h
  exact ⟨k, c2, e, ownE_over q hu gr (by decide)⟩
theorem Mkd.overL {C n2 : Nat} {u w : Value} {m : Nat} {s : Nat → Nat → Nat} {ys : List Value} (h : Mkd B W u m s) (hu : W.ownsRow C 36 16 w n2 ys) (hlo : ∀ b, u.ownBlock = some b → b < C) (gr : W.grownBy W' w.ownBlock) : Mkd B W' u m s := by
  obtain ⟨k, c2, rfl, q⟩ := h
  exact ⟨k, c2, rfl, ownW_grown q gr (fun k' hk q' => by
    have h1 := hlo k' hk
    have h2 := (hu.lt k' q').1
    omega)⟩
theorem CpL.zero (h : W.ownsRow B 47 2 v 0 (epV nu tw 0)) : CpL B W v 0 nu tw ln t := ⟨h, fun j h => absurd h (Nat.not_lt_zero j), fun i _ h => absurd h (Nat.not_lt_zero i)⟩
theorem CpL.on (h : CpL B W v n nu tw ln t) (hb : Below W.heap.size W W') : CpL B W' v n nu tw ln t := ⟨ownE_below h.row hb, fun j hj => (h.lists j hj).on hb, h.dis⟩
theorem CpL.base {C : Nat} (h : CpL B W v n nu tw ln t) (hC : C ≤ B) : CpL C W v n nu tw ln t := ⟨ownE_base h.row hC, fun j hj => (h.lists j hj).base hC, h.dis⟩
theorem CpL.lo (h : CpL B W v n nu tw ln t) : ∀ j, j < n → ∀ b, (tw j).ownBlock = some b → b < W.heap.size := fun j hj b hb => ((h.lists j hj).lt b hb).2
theorem CpL.setW {g : Nat} {c d : Array Value} {u : TypeId} (h : CpL B W v n nu tw ln t) (hg : W.heap[g]? = some (.cells c u)) (h1 : u ≠ 47) (h2 : u ≠ 36) : CpL B (W.setRow g d) v n nu tw ln t := ⟨ownE_setT h.row hg h1, fun j hj => (h.lists j hj).setT hg h2, h.dis⟩
theorem CpL.setC {g k : Nat} {c : Array Value} {x : Value} {u : TypeId} (h : CpL B W v n nu tw ln t) (hg : W.heap[g]? = some (.cells c u)) (h1 : u ≠ 47) (h2 : u ≠ 36) : CpL B (W.setCell ⟨g, k, none⟩ x) v n nu tw ln t := ⟨ownE_setC h.row hg h1, fun j hj => (h.lists j hj).setC hg h2, h.dis⟩
theorem CpL.overL {C n2 : Nat} {w : Value} {ys : List Value} (h : CpL B W v n nu tw ln t) (hu : W.ownsRow C 36 16 w n2 ys) (hlo : ∀ j, j < n → ∀ b, (tw j).ownBlock = some b → b < C) (gr : W.grownBy W' w.ownBlock) : CpL B W' v n nu tw ln t :=
  ⟨ownE_over h.row hu gr (by decide), fun j hj => (h.lists j hj).overL hu (hlo j hj) gr, h.dis⟩
theorem CpL.push {C m : Nat} {v' u : Value} {z : Int} {s : Nat → Nat → Nat} (h : CpL B W v n nu tw ln t) (hu : Mkd C W u m s) (hlo : ∀ j, j < n → ∀ b, (tw j).ownBlock = some b → b < C) (hC : B ≤ C) (own' : W'.ownsRow B 47 2 v' (n + 1) (epV (up nu n z) (up tw n u) (n + 1))) (gr : W.grownBy W' v.ownBlock) : CpL B W' v' (n + 1) (up nu n z) (up tw n u) (up ln n m) (up t n s) := by
  refine ⟨own', fun j hj => ?_, fun i j hi hj hij b hb => ?_⟩
  · by_cases e : j = n
    · subst e
      rw [up_at, up_at, up_at]
      exact (hu.base hC).overE h.row gr
    · rw [up_ne _ _ e, up_ne _ _ e, up_ne _ _ e]
      exact (h.lists j (by omega)).overE h.row gr
  · by_cases e : i = n
    · subst e
      rw [up_at] at hb
      rw [up_ne _ _ (Ne.symm hij)]
      intro q
      have h1 := hlo j (by omega) b q
      have h2 := (hu.lt b hb).1
      omega
    · rw [up_ne _ _ e] at hb
      by_cases e2 : j = n
      · subst e2
        rw [up_at]
        intro q
        have h1 := hlo i (by omega) b hb
        have h2 := (hu.lt b q).1
        omega
      · rw [up_ne _ _ e2]
        exact h.dis i j (by omega) (by omega) hij b hb
end
/-- A copied window: its row bears two epochs more. -/
def CpW (B : Nat) (W : World) (cv : Value) (n : Nat) (nu : Nat → Int) (tw : Nat → Value) (ln : Nat → Nat) (t : Nat → Nat → Nat → Nat) : Prop :=
  ∃ g c, cv = .slice (some ⟨g, 0, none⟩) n c ∧ W.ownsRow B 47 2 (.slice (some ⟨g, 0, none⟩) (n + 2) c) (n + 2) (epV (up (up nu n (-77)) (n + 1) (-78)) (up (up tw n (.slice none 0 0)) (n + 1) (.slice none 0 0)) (n + 2)) ∧ (∀ j, j < n → Mkd B W (tw j) (ln j) (t j)) ∧ ∀ i j, i < n → j < n → i ≠ j → ∀ b, (tw i).ownBlock = some b → (tw j).ownBlock ≠ some b
/-- append of two epochs. -/
theorem stepAppE2 {ops : Array Oper} {Q : Exit → Act → World → Prop} {K : Act → World → Prop} {j : Nat} {o : Oper} {a : Act} {W : World} {s x : Operand} {B n g : Nat} {v u u2 : Value} {z z2 : Int} {nu : Nat → Int} {tw : Nat → Value} (hos : ops[j]? = some o) (hgd : Region.wanted o (yielded ops a.tmps) = true)
    (ho : o.op = .call { callee := .builtin .append, args := #[s, x], argTypes := #[22, 22] }) (hs : a.eval s = v) (hx : a.eval x = .slice (some ⟨g, 0, none⟩) 2 2) (own : W.ownsRow B 47 2 v n (epV nu tw n)) (hg : W.heap[g]? = some (.cells #[.int .i64 z, u, .int .i64 z2, u2] 47)) (hu : u.oneCell' = true) (hu2 : u2.oneCell' = true) (hn : (n + 2) * 32 ≤ 140737488355328) (hB : B ≤ W.heap.size)
    (hK : ∀ v' W', W'.ownsRow B 47 2 v' (n + 2) (epV (up (up nu n z) (n + 1) z2) (up (up tw n u) (n + 1) u2) (n + 2)) → W.grownBy W' v.ownBlock → K (a.put o.dst v') W') : wpOp Try.prog ops Q j K a W := by
  obtain ⟨i, i1, i2, i3, i4⟩ := infoEp
  obtain ⟨v', w', hr, r1, r2, _⟩ := run_append_own (P := Try.prog) W B 22 o.type 47 i (.agg (epC 0 (.slice none 0 0))) 2 32 Try.underlying22 i1 i2 i3 i4 rfl (by decide) v n (epV nu tw n) own ⟨g, 0, none⟩ 2 2 [.int .i64 z, u, .int .i64 z2, u2] rfl (fun j w hw => by
    rw [Go.WideShapes.add_plain, cell_of_row _ _ _ _ _ _ hg, Nat.zero_add]
    match j, hw with
    | 0, hw => exact hw
    | 1, hw => exact hw
    | 2, hw => exact hw
    | 3, hw => exact hw
    | k + 4, hw => simp at hw) (fun w hw => by
    rcases List.mem_cons.1 hw with e | hw
    · rw [e]; rfl
    · rcases List.mem_cons.1 hw with e | hw
      · rw [e]; exact hu
      · rcases List.mem_cons.1 hw with e | hw
        · rw [e]; rfl
        · rcases List.mem_cons.1 hw with e | hw
          · rw [e]; exact hu2
          · cases hw) (by unfold maxLen; omega) (by omega) hB
  have e2 : epV nu tw n ++ [.int .i64 z, u, .int .i64 z2, u2] = epV (up (up nu n z) (n + 1) z2) (up (up tw n u) (n + 1) u2) (n + 2) := by
    rw [show n + 2 = (n + 1) + 1 from rfl, epV_up, epV_up, List.append_assoc]
    rfl
  rw [e2] at r1
  refine stepV hos hgd (v := v') (w' := w') ?_ (hK v' w' r1 r2)
  unfold execOp
  simp only [ho, resolve, invoke, builtin, Sem.run_bind, Sem.run_pure, Result.andThen_ok, List.map_toArray, List.map_cons, List.map_nil, hs, hx, hr]
section
variable {o : Oper} {a : Act} {w : World}
theorem execMkE {x y : Operand} {n : Nat} (ho : o.op = .makeSlice 22 x y) (hx : a.eval x = .int .i64 0) (hy : a.eval y = .int .i64 ((n : Nat) : Int)) (hn : n * 32 ≤ 140737488355328) : (execOp a.eval o).run Try.prog w = .ok (.value (.slice (some ⟨w.heap.size, 0, none⟩) 0 n)) (w.alloc (.cells (madeCells (epC 0 (.slice none 0 0)) (n * 2)) 47)) := by
  obtain ⟨i, h1, h2, h3, h4⟩ := infoEp
  have h := run_make (P := Try.prog) w 22 47 i (.agg (epC 0 (.slice none 0 0))) Try.underlying22 h1 h2 .i64 .i64 0 ((n : Nat) : Int) (by omega) (by omega) (by rw [h4]; omega) (by omega)
  rw [h3, Int.toNat_natCast] at h
  unfold execOp
  simp only [ho, hx, hy, Sem.run_bind, h, Result.andThen_ok, Sem.run_pure]
  rfl
theorem execSlHE {x h : Operand} {b off len cap k : Nat} (ho : o.op = .slice 22 x none (some h) none) (hx : a.eval x = .slice (some ⟨b, off, none⟩) len cap) (hh : a.eval h = .int .i64 ((k : Nat) : Int)) (hk : k ≤ cap) : (execOp a.eval o).run Try.prog w = .ok (.value (.slice (some ⟨b, off, none⟩) k cap)) w := by
  have hr : (Instr.sliceAt 22 (.slice (some ⟨b, off, none⟩) len cap) none (some (.int .i64 ((k : Nat) : Int))) none).run Try.prog w = .ok (.slice (some ⟨b, off, none⟩) k cap) w := by
    have e1 : (k : Int) ≤ cap := by omega
    simp [Instr.sliceAt, Instr.slice, run_underlying Try.underlying22, Instr.sliceBounds, run_sliceBound, hk, Addr.add_mid]
  unfold execOp
  simp only [ho, hx, hh, Option.map_some, Option.map_none, Sem.run_bind, hr, Result.andThen_ok, Sem.run_pure]
theorem execBdE1 {z : Int} (ho : o.op = .build 47 #[(0, .const (.int .i64 z))]) : (execOp a.eval o).run Try.prog w = .ok (.value (.agg (epC z (.slice none 0 0)))) w := by
  unfold execOp
  simp only [ho]
  simp [go_sem, epC, Act.eval]
end
theorem own_mkE (W : World) (n : Nat) (nu : Nat → Int) (tw : Nat → Value) (hn : n * 32 ≤ 140737488355328) : (W.alloc (.cells (madeCells (epC 0 (.slice none 0 0)) (n * 2)) 47)).ownsRow W.heap.size 47 2 (.slice (some ⟨W.heap.size, 0, none⟩) 0 n) 0 (epV nu tw 0) :=
  ⟨rfl, Or.inr ⟨W.heap.size, n, _, rfl, Nat.le_refl _, heapNew W _, Nat.zero_le _, by unfold maxLen; omega, by rw [size_madeCells], rfl⟩⟩
/-- A row that is not empty has a block. -/
theorem own_some {W : World} {B n s : Nat} {ty : TypeId} {v : Value} {xs : List Value} (h : W.ownsRow B ty s v n xs) (hn : 0 < n) : ∃ g c, v = .slice (some ⟨g, 0, none⟩) n c ∧ n ≤ c := by
  rcases h.2 with ⟨_, rfl⟩ | ⟨g, cap, cur, rfl, _, _, h1, _⟩
  · omega
  · exact ⟨g, cap, rfl, h1⟩
theorem two2_byt : ∀ k, k < 2 → ∀ i, i < 16 → two2 k i < 256 := fun k _ i _ => by
  unfold two2
  split
  · exact (by decide : (33 : Nat) < 256)
  · exact (by decide : (63 : Nat) < 256)
theorem CpW.eps {B n : Nat} {W : World} {v : Value} {nu : Nat → Int} {tw : Nat → Value} {ln : Nat → Nat} {t : Nat → Nat → Nat → Nat} (h : CpW B W v n nu tw ln t) (hb : ∀ j, j < n → ∀ k, k < ln j → ∀ i, i < 16 → t j k i < 256) (hn : ∀ j, j < n → I64 (nu j)) : Eps W v n nu tw ln t := by
  obtain ⟨g, c, rfl, hr, hl, _⟩ := h
  have hm : maxLen < 9223372036854775808 := by decide
  rcases hr.2 with ⟨e, _⟩ | ⟨g', cap, cur, e, _, hg, q1, q2, q3, q4⟩
  · cases e
  · injection e with e1 _ e3
    injection e1 with e1
    injection e1 with e1 _ _
    subst e1
    subst e3
    refine ⟨⟨_, _, rfl, by omega, by omega, fun _ => ⟨g, 0, rfl, (Array.getElem?_eq_some_iff.1 hg).1, fun j hj => ?_⟩⟩, fun j hj => ?_, hn⟩
    · have h5 := epV_at (up (up nu n (-77)) (n + 1) (-78)) (up (up tw n (.slice none 0 0)) (n + 1) (.slice none 0 0)) (n + 2) j (by omega)
      rw [← q4, List.getElem?_take_of_lt (by omega), List.getElem?_take_of_lt (by omega), up_ne _ _ (by omega), up_ne _ _ (by omega), up_ne _ _ (by omega), up_ne _ _ (by omega)] at h5
      exact ⟨by rw [cell_of_row _ _ _ _ _ _ hg, Nat.zero_add, ← Array.getElem?_toList]; exact h5.1, by rw [cell_of_row _ _ _ _ _ _ hg, Nat.zero_add, ← Array.getElem?_toList]; exact h5.2⟩
    · obtain ⟨k, d, e5, q⟩ := hl j hj
      have hT := own_tgs q (cat_byt (hb j hj) two2_byt)
      rw [e5]
      obtain ⟨⟨a, c', e6, r1, r2, r3⟩, hp, hz⟩ := hT
      injection e6 with e7 _ e8
      subst e8
      refine ⟨⟨_, _, rfl, by omega, r2, fun h0 => ?_⟩, hb j hj, fun l c e => by cases e⟩
      obtain ⟨b', o', e9, r4, r5⟩ := r3 (by omega)
      refine ⟨b', o', by rw [e7, e9], r4, fun i hi x hx => ?_⟩
      have := r5 i (by omega) x hx
      rw [show mk2 (ln j) (t j) i = t j i from if_pos hi] at this
      exact this
theorem execSub3 {o : Oper} {a : Act} {w : World} {x : Operand} {p z : Nat} (ho : o.op = .binOp .sub 3 x (.const (.int .i64 2)) 3) (hx : a.eval x = .int .i64 ((p : Nat) : Int)) (hz : p - 2 = z) (h2 : 2 ≤ p) (hp : p < 9223372036854775808) : (execOp a.eval o).run Try.prog w = .ok (.value (.int .i64 ((z : Nat) : Int))) w := by
  have e : IntKind.i64.wrap (((p : Nat) : Int) - 2) = ((z : Nat) : Int) := by rw [IntKind.wrap_i64]; omega
  unfold execOp
  simp only [ho, hx]
  simp [go_sem, Act.eval, e]
set_option maxRecDepth 100000 in
set_option maxHeartbeats 4000000 in
/-- The law's copied. -/
theorem copied16 (nw : Int) (ev : Value) (n : Nat) (nu : Nat → Int) (tw : Nat → Value) (ln : Nat → Nat) (t : Nat → Nat → Nat → Nat) (V : World) (hW : Wd V nw ev n nu tw ln t) (hn50 : n ≤ 50) (hl5k : ∀ j, j < n → ln j ≤ 5000) :
    Calls Try.prog 9 #[.agg (wC nw ev)] V fun e w' => (∃ cv uw, e = .returned (.agg (wC nw cv)) ∧ CpW V.heap.size w' cv n nu uw ln t) ∧ Below V.heap.size V w' := by
  go_enter Try.func9, Try.ntmps9
  have hE := hW.eps
  have hn63 := hW.n63
  refine wo_ 61 [(0, .agg (wC nw ev))] ?_
  rintro a A ⟨t0, -⟩
  have BW : Below V.heap.size V V := Below.refl _ _
  have BB := BW
  refine wp_seq ?_
  obtain ⟨g1, egg1⟩ : ∃ z_ : Nat, V.heap.size = z_ := ⟨_, rfl⟩
  refine wi_ A (h1_ t0) (rs_ 0 (fun a ee => ?_))
  refine stepV rfl rfl (execBoxW rfl (ee _)) ⟨.pointer (some ⟨g1, 0, none⟩), ⟨_, rfl, by subst egg1; rfl⟩, fun X0_1 hX => ?_⟩
  have bQ : Below V.heap.size V X0_1 := by subst hX egg1; exact (belNew V _)
  have Fg1 : (X0_1.heap[g1]? = some (.cells (wC nw ev) 24)) := by subst hX egg1; exact heapNew V _
  replace BB := BB.trans (bQ.mono BB.size)
  clear bQ hX egg1 ee a
  obtain ⟨g2, egg2⟩ : ∃ z_ : Nat, X0_1.heap.size = z_ := ⟨_, rfl⟩
  refine rs_ 1 (fun a ee => ?_)
  refine stepV rfl rfl (execAllW rfl) ⟨.pointer (some ⟨g2, 0, none⟩), ⟨_, rfl, by subst egg2; rfl⟩, fun X0 hX => ?_⟩
  have bQ : Below X0_1.heap.size X0_1 X0 := by subst hX egg2; exact (belNew X0_1 _)
  have Fg2 : (X0.heap[g2]? = some (.cells (wC 0 (.slice none 0 0)) 24)) := by subst hX egg2; exact heapNew X0_1 _
  have FGg2 : (V.heap.size ≤ g2) := by subst hX egg2; exact (BB).size
  replace Fg1 := (on9 Fg1 bQ)
  replace BB := BB.trans (bQ.mono BB.size)
  clear bQ hX egg2 ee a
  refine rg_ [(1, .pointer (some ⟨g1, 0, none⟩)), (2, .pointer (some ⟨g2, 0, none⟩))] ?_
  rintro a A ⟨t1, t2, -⟩
  refine wp_seq ?_
  obtain ⟨g3, egg3⟩ : ∃ z_ : Nat, X0.heap.size = z_ := ⟨_, rfl⟩
  refine wi_ A (h2_ t1 t2) (rv_ 0 (.pointer (some ⟨g1, 0, none⟩)) (fun a ee => execFldW0 rfl (ee _)) (rv_ 1 (.int .i64 nw) (fun a ee => execLd2 rfl (ee _) (wC_0 Fg1)) (rv_ 2 (.agg (wC nw (.slice none 0 0))) (fun a ee => execBdW1 rfl (ee _)) (rs_ 3 (fun a ee => ?_)))))
  refine stepV rfl rfl (execAllW rfl) ⟨.pointer (some ⟨g3, 0, none⟩), ⟨_, rfl, by subst egg3; rfl⟩, fun X1_1 hX => ?_⟩
  have bQ : Below X0.heap.size X0 X1_1 := by subst hX egg3; exact (belNew X0 _)
  have Fg3 : (X1_1.heap[g3]? = some (.cells (wC 0 (.slice none 0 0)) 24)) := by subst hX egg3; exact heapNew X0 _
  have FGg3 : (V.heap.size ≤ g3) := by subst hX egg3; exact (BB).size
  have FNg1g3 : (g1 ≠ g3) := by subst hX egg3; exact ne16 Fg1
  have FNg2g3 : (g2 ≠ g3) := by subst hX egg3; exact ne16 Fg2
  replace Fg1 := (on9 Fg1 bQ)
  replace Fg2 := (on9 Fg2 bQ)
  replace BB := BB.trans (bQ.mono BB.size)
  clear bQ hX egg3 ee a
  refine rs_ 4 (fun a ee => ?_)
  refine stepS rfl rfl (execStWn rfl (ee _) (ee _) Fg3 (slc_one ⟨_, _, _, rfl⟩)) ⟨_, ⟨_, rfl, rfl⟩, fun X1 hX => ?_⟩
  obtain ⟨BB, Fg1, Fg2, Fo⟩ : Below V.heap.size V X1 ∧ (X1.heap[g1]? = some (.cells (wC nw ev) 24)) ∧ (X1.heap[g2]? = some (.cells (wC 0 (.slice none 0 0)) 24)) ∧ (X1.heap[g3]? = some (.cells (wC nw (.slice none 0 0)) 24)) := by subst hX; exact ⟨below4 BB FGg3 _, (by rw [setRow_other _ _ _ _ FNg1g3]; exact Fg1), (by rw [setRow_other _ _ _ _ FNg2g3]; exact Fg2), setRow_heap _ _ _ _ _ _ Fg3⟩
  clear Fg3 hX ee a
  refine rf_ [(3, .pointer (some ⟨g3, 0, none⟩))] (h2_ t1 t2) ?_
  rintro a A ⟨t3, -⟩ ⟨t1, t2, -⟩
  refine wp_seq ?_
  obtain ⟨g15, egg15⟩ : ∃ z_ : Nat, X1.heap.size = z_ := ⟨_, rfl⟩
  refine wi_ A (h3_ t1 t2 t3) (rv_ 0 (.pointer (some ⟨g1, 1, none⟩)) (fun a ee => execFldW1 rfl (ee _)) (rv_ 1 (ev) (fun a ee => execLdEs rfl (ee _) (wC_1 Fg1)) (rv_ 2 (.int .i64 ((n : Nat) : Int)) (fun a ee => execLenEs (len := n) rfl (ee _) hE.shp) (rv_ 3 (.int .i64 ((n + 2 : Nat) : Int)) (fun a ee => execAd8 (p := n) (q := 2) rfl (ee _) rfl (by omega)) (rs_ 4 (fun a ee => ?_))))))
  refine stepV rfl rfl (execMkE (n := n + 2) rfl rfl (ee _) (by omega)) ⟨.slice (some ⟨g15, 0, none⟩) 0 (n + 2), ⟨_, rfl, by subst egg15; rfl⟩, fun X2 hX => ?_⟩
  have bQ : Below X1.heap.size X1 X2 := by subst hX egg15; exact (belNew X1 _)
  have FR : (X2.ownsRow V.heap.size 47 2 (.slice (some ⟨g15, 0, none⟩) 0 (n + 2)) (0) (epV (fun _ => 0) (fun _ => undef) (0))) := by subst hX egg15; exact ownE_base (own_mkE X1 _ _ _ (by omega)) (BB).size
  replace Fg1 := (on9 Fg1 bQ)
  replace Fg2 := (on9 Fg2 bQ)
  replace Fo := (on9 Fo bQ)
  replace BB := BB.trans (bQ.mono BB.size)
  clear bQ hX egg15 ee a
  refine rf_ [(4, .slice (some ⟨g15, 0, none⟩) 0 (n + 2))] (h3_ t1 t2 t3) ?_
  rintro a A ⟨t4, -⟩ ⟨t1, t2, t3, -⟩
  have FC : CpL V.heap.size X2 (.slice (some ⟨g15, 0, none⟩) 0 (n + 2)) 0 (fun _ => 0) (fun _ => undef) (fun _ => 0) (fun _ _ _ => 0) := CpL.zero FR
  clear FR
  refine wp_seq ?_
  refine wp_seq ?_
  refine wi_ A (h4_ t1 t2 t3 t4) (rf_ [(5, .int .i64 ((0 : Nat) : Int))] (h4_ t1 t2 t3 t4) ?_)
  rintro a A ⟨t5, -⟩ ⟨t1, t2, t3, t4, -⟩
  refine wp_block ?_
  refine wp_loop (fun a W => ∃ (i : Nat) (lv : Value) (nv : Nat → Int) (uw : Nat → Value) (lm : Nat → Nat) (sg : Nat → Nat → Nat → Nat), i ≤ n ∧ (∀ j_, j_ < i → nv j_ = nu j_ ∧ lm j_ = ln j_ ∧ sg j_ = t j_) ∧ (a.tmps.size = 61 ∧ a.defers = []) ∧ a.eval (.tmp 1) = .pointer (some ⟨g1, 0, none⟩) ∧ a.eval (.tmp 2) = .pointer (some ⟨g2, 0, none⟩) ∧ a.eval (.tmp 3) = .pointer (some ⟨g3, 0, none⟩) ∧ a.eval (.tmp 4) = lv ∧ a.eval (.tmp 5) = .int .i64 ((i : Nat) : Int) ∧ Below V.heap.size V W ∧ (W.heap[g1]? = some (.cells (wC nw ev) 24)) ∧ (W.heap[g2]? = some (.cells (wC 0 (.slice none 0 0)) 24)) ∧ (W.heap[g3]? = some (.cells (wC nw (.slice none 0 0)) 24)) ∧ (CpL V.heap.size W lv i nv uw lm sg)) (fun a _ => n - (intOf (a.eval (.tmp 5))).toNat) ⟨0, .slice (some ⟨g15, 0, none⟩) 0 (n + 2), fun _ => 0, fun _ => undef, fun _ => 0, fun _ _ _ => 0, Nat.zero_le _, fun j_ h_ => absurd h_ (Nat.not_lt_zero j_), A, t1, t2, t3, t4, t5, BB, Fg1, Fg2, Fo, FC⟩ ?_
  clear A t1 t2 t3 t4 t5 BB Fg1 Fg2 Fo FC a
  rintro a XL4 ⟨i, lv, nv, uw, lm, sg, hi, hcg, A, t1, t2, t3, t4, t5, BB, Fg1, Fg2, Fo, FC⟩
  have esi := t5
  refine wp_seq ?_
  refine wp_seq ?_
  refine wi_ A (h5_ t1 t2 t3 t4 t5) (rv_ 1 (.pointer (some ⟨g1, 1, none⟩)) (fun a ee => execFldW1 rfl (ee _)) (rv_ 2 (ev) (fun a ee => execLdEs rfl (ee _) (wC_1 Fg1)) (rv_ 3 (.int .i64 ((n : Nat) : Int)) (fun a ee => execLenEs (len := n) rfl (ee _) hE.shp) (rv_ 4 (.bool (decide (i < n))) (fun a ee => execLtW (p := i) (q := n) rfl (ee _) (ee _)) (rf_ [(20, .bool (decide (i < n)))] (h5_ t1 t2 t3 t4 t5) ?_)))))
  rintro a A ⟨t20, -⟩ ⟨t1, t2, t3, t4, t5, -⟩
  by_cases lti : i < n
  · rw [decide_eq_true lti] at t20
    refine wp_cond_true t20 ?_
    refine wp_skip ?_
    clear t20
    refine wp_seq ?_
    refine wp_block ?_
    have hTe := hE.lists i lti
    have hln := hW.ln16 i lti
    have hl5 := hl5k i lti
    obtain ⟨wb, wo, wc, we, hwb, hwc⟩ := hE.at (show 0 < n by omega)
    have wN : ∀ X, Below V.heap.size V X → X.cell? ⟨wb, wo + i * 2 + 0, none⟩ = some (.int .i64 (nu i)) := fun X hX => by rw [cell_below hX hwb]; exact (hwc i lti).1
    have wT : ∀ X, Below V.heap.size V X → X.cell? ⟨wb, wo + i * 2 + 1, none⟩ = some (tw i) := fun X hX => by rw [cell_below hX hwb]; exact (hwc i lti).2
    have hlo := FC.lo
    have hCB : V.heap.size ≤ XL4.heap.size := BB.size
    refine wp_seq ?_
    obtain ⟨g23, egg23⟩ : ∃ z_ : Nat, XL4.heap.size = z_ := ⟨_, rfl⟩
    refine wi_ A (h5_ t1 t2 t3 t4 t5) (rs_ 0 (fun a ee => ?_))
    refine stepV rfl rfl (execBsT0 rfl) ⟨.slice (some ⟨g23, 0, none⟩) 0 0, ⟨_, rfl, by subst egg23; rfl⟩, fun X6_1 hX => ?_⟩
    have bQ : Below XL4.heap.size XL4 X6_1 := by subst hX egg23; exact (belNew XL4 _)
    have FO : (X6_1.ownsRow XL4.heap.size 36 16 (.slice (some ⟨g23, 0, none⟩) 0 0) (0) (tgV (fun _ _ => 0) (0))) := by subst hX egg23; exact own_bs0 XL4 _
    have FZ0 : (XL4.heap.size ≤ X6_1.heap.size) := by subst hX egg23; exact (belNew XL4 _).size
    replace Fg1 := (on9 Fg1 bQ)
    replace Fg2 := (on9 Fg2 bQ)
    replace Fo := (on9 Fo bQ)
    replace FC := (FC.on bQ)
    replace BB := BB.trans (bQ.mono BB.size)
    clear bQ hX egg23 ee a
    refine rv_ 1 (.pointer (some ⟨g1, 1, none⟩)) (fun a ee => execFldW1 rfl (ee _)) (rv_ 2 (ev) (fun a ee => execLdEs rfl (ee _) (wC_1 Fg1)) (rv_ 4 (.pointer (some ⟨wb, wo + i * 2, none⟩)) (fun a ee => execIdxEs (k := i) rfl ((ee _).trans we) (ee _) lti) (rv_ 5 (.pointer (some ⟨wb, wo + i * 2 + 1, none⟩)) (fun a ee => execFldE1 rfl (ee _)) (rv_ 6 (tw i) (fun a ee => execLdTs rfl (ee _) (wT X6_1 BB)) (rs_ 7 (fun a ee => ?_))))))
    refine stepAppT (n := 0) (m := ln i) (t := fun _ _ => 0) (p := t i) rfl rfl rfl (ee _) (ee _) FO (hTe.on BB) (by omega) FZ0 fun v30 X6_2 own' gr => ⟨_, ⟨_, rfl, rfl⟩, eqw ?_⟩
    obtain ⟨BB, Fg1, Fg2, Fo, FC, FP, FZv30⟩ : Below V.heap.size V X6_2 ∧ (X6_2.heap[g1]? = some (.cells (wC nw ev) 24)) ∧ (X6_2.heap[g2]? = some (.cells (wC 0 (.slice none 0 0)) 24)) ∧ (X6_2.heap[g3]? = some (.cells (wC nw (.slice none 0 0)) 24)) ∧ (CpL V.heap.size X6_2 lv i nv uw lm sg) ∧ (X6_2.ownsRow XL4.heap.size 36 16 v30 (ln i) (tgV (t i) (ln i))) ∧ (XL4.heap.size ≤ X6_2.heap.size) := ⟨(BB).grown gr (BB).size (fun k hk => Nat.le_trans hCB (FO.lt k hk).1), heapE_over FO gr Fg1 (by decide), heapE_over FO gr Fg2 (by decide), heapE_over FO gr Fo (by decide), (FC).overL FO hlo gr, (by rw [Nat.zero_add, cat0] at own'; exact own'), Nat.le_trans FZ0 gr.size⟩
    clear FO FZ0 ee a
    refine rc_ 8 (tag16 33 X6_2 (by decide)) (cb_ fun X6_3 bQ => ?_)
    replace Fg1 := (on9 Fg1 bQ)
    replace Fg2 := (on9 Fg2 bQ)
    replace Fo := (on9 Fo bQ)
    replace FC := (FC.on bQ)
    replace FP := (ownE_below FP bQ)
    replace FZv30 := (Nat.le_trans FZv30 (bQ).size)
    replace BB := BB.trans (bQ.mono BB.size)
    clear bQ
    refine rc_ 9 (tag16 63 X6_3 (by decide)) (cb_ fun X6_4 bQ => ?_)
    replace Fg1 := (on9 Fg1 bQ)
    replace Fg2 := (on9 Fg2 bQ)
    replace Fo := (on9 Fo bQ)
    replace FC := (FC.on bQ)
    replace FP := (ownE_below FP bQ)
    replace FZv30 := (Nat.le_trans FZv30 (bQ).size)
    replace BB := BB.trans (bQ.mono BB.size)
    clear bQ
    obtain ⟨g33, egg33⟩ : ∃ z_ : Nat, X6_4.heap.size = z_ := ⟨_, rfl⟩
    refine rs_ 10 (fun a ee => ?_)
    refine stepV rfl rfl (execBsT2 rfl (ee _) (ee _)) ⟨.slice (some ⟨g33, 0, none⟩) 2 2, ⟨_, rfl, by subst egg33; rfl⟩, fun X6_5 hX => ?_⟩
    have bQ : Below X6_4.heap.size X6_4 X6_5 := by subst hX egg33; exact (belNew X6_4 _)
    have FT : (Tgs X6_5 (.slice (some ⟨g33, 0, none⟩) 2 2) 2 two2) := by subst hX egg33; exact two_tgs (heapNew X6_4 _) (fun _ _ => by decide) (fun _ _ => by decide)
    replace Fg1 := (on9 Fg1 bQ)
    replace Fg2 := (on9 Fg2 bQ)
    replace Fo := (on9 Fo bQ)
    replace FC := (FC.on bQ)
    replace FP := (ownE_below FP bQ)
    replace FZv30 := (Nat.le_trans FZv30 (bQ).size)
    replace BB := BB.trans (bQ.mono BB.size)
    clear bQ hX egg33 ee a
    refine rs_ 11 (fun a ee => ?_)
    refine stepAppT (n := ln i) (m := 2) (t := t i) (p := two2) rfl rfl rfl (ee _) (ee _) FP FT (by omega) FZv30 fun v34 X6 own' gr => ⟨_, ⟨_, rfl, rfl⟩, eqw ?_⟩
    obtain ⟨BB, Fg1, Fg2, Fo, FC, FM, FZv34⟩ : Below V.heap.size V X6 ∧ (X6.heap[g1]? = some (.cells (wC nw ev) 24)) ∧ (X6.heap[g2]? = some (.cells (wC 0 (.slice none 0 0)) 24)) ∧ (X6.heap[g3]? = some (.cells (wC nw (.slice none 0 0)) 24)) ∧ (CpL V.heap.size X6 lv i nv uw lm sg) ∧ (X6.ownsRow XL4.heap.size 36 16 v34 (ln i + 2) (tgV (catT (ln i) (t i) (two2)) (ln i + 2))) ∧ (XL4.heap.size ≤ X6.heap.size) := ⟨(BB).grown gr (BB).size (fun k hk => Nat.le_trans hCB (FP.lt k hk).1), heapE_over FP gr Fg1 (by decide), heapE_over FP gr Fg2 (by decide), heapE_over FP gr Fo (by decide), (FC).overL FP hlo gr, own', Nat.le_trans FZv30 gr.size⟩
    clear FP FZv30 FT ee a
    refine rf_ [(6, v34)] (h5_ t1 t2 t3 t4 t5) ?_
    rintro a A ⟨t6, -⟩ ⟨t1, t2, t3, t4, t5, -⟩
    obtain ⟨gm, cm, em, hcm⟩ := own_some FM (by omega)
    have hM : Mkd XL4.heap.size X6 (.slice (some ⟨gm, 0, none⟩) (ln i) cm) (ln i) (t i) := ⟨gm, cm, rfl, em ▸ FM⟩
    clear FM FZv34
    have FM := hM
    clear hM
    rw [em] at t6
    refine wj_ [0, 1, 2, 3, 4, 5, 6, 7, 8, 9, 10, 11, 12, 13, 14, 15] [13, 14] [2, 6] [14] A (h6_ t1 t2 t3 t4 t5 t6) (fun X7_0 bD => ?_)
    obtain ⟨g48, egg48⟩ : ∃ z_ : Nat, X7_0.heap.size = z_ := ⟨_, rfl⟩
    refine dw_ 1 (.pointer (some ⟨g1, 1, none⟩)) (fun a X ee => execFldW1 rfl (ee _)) (dv_ 2 (ev) (fun a X ee hb => execLdEs rfl (ee _) (wC_1 (on9 Fg1 hb))) (dw_ 4 (.pointer (some ⟨wb, wo + i * 2, none⟩)) (fun a X ee => execIdxEs (k := i) rfl ((ee _).trans we) (ee _) lti) (dw_ 5 (.pointer (some ⟨wb, wo + i * 2 + 0, none⟩)) (fun a X ee => execFldE0 rfl (ee _)) (dv_ 6 (.int .i64 (nu i)) (fun a X ee hb => execLd2 rfl (ee _) (wN X (BB.trans (hb.mono BB.size)))) (dw_ 9 (.int .i64 ((ln i + 2 : Nat) : Int)) (fun a X ee => execLenTs (len := ln i + 2) rfl (ee _) ⟨_, _, rfl⟩) (dw_ 10 (.int .i64 ((ln i : Nat) : Int)) (fun a X ee => execSub3 (p := ln i + 2) (z := ln i) rfl (ee _) rfl (by omega) (by omega)) (dw_ 11 (.slice (some ⟨gm, 0, none⟩) (ln i) cm) (fun a X ee => execSlH16 rfl (ee _) (ee _) (sl16_h gm 0 (ln i + 2) cm (ln i) (by omega) X)) (dw_ 12 (.agg (epC (nu i) (.slice (some ⟨gm, 0, none⟩) (ln i) cm))) (fun a X ee => execBdEp rfl (ee _) (ee _) ⟨_, _, _, rfl⟩) (ds_ 13 (fun a ee => ?_))))))))))
    refine stepV rfl rfl (execBsEp rfl (ee _) ⟨_, _, _, rfl⟩) ⟨.slice (some ⟨g48, 0, none⟩) 1 1, ⟨_, rfl, by subst egg48; rfl⟩, fun X7_1 hX => ?_⟩
    have bQ : Below X7_0.heap.size X7_0 X7_1 := by subst hX egg48; exact (belNew X7_0 _)
    have Fg48 : (X7_1.heap[g48]? = some (.cells (epC (nu i) (.slice (some ⟨gm, 0, none⟩) (ln i) cm)) 47)) := by subst hX egg48; exact heapNew X7_0 _
    replace bD := bD.trans (bQ.mono bD.size)
    clear bQ hX egg48 ee a
    refine ⟨Or.inr bD, ?_⟩
    refine ds_ 14 (fun a ee => ?_)
    refine stepAppE rfl rfl rfl (ee _) (ee _) (FC.on bD).row Fg48 rfl (by omega) ((BB.trans (bD.mono BB.size))).size fun v49 X7 own' gr => ⟨_, ⟨_, rfl, rfl⟩, eqw ?_⟩
    obtain ⟨BB, Fg1, Fg2, Fo, FC2⟩ : Below V.heap.size V X7 ∧ (X7.heap[g1]? = some (.cells (wC nw ev) 24)) ∧ (X7.heap[g2]? = some (.cells (wC 0 (.slice none 0 0)) 24)) ∧ (X7.heap[g3]? = some (.cells (wC nw (.slice none 0 0)) 24)) ∧ (CpL V.heap.size X7 v49 (i + 1) (up nv i (nu i)) (up uw i (.slice (some ⟨gm, 0, none⟩) (ln i) cm)) (up lm i (ln i)) (up sg i (t i))) := ⟨((BB.trans (bD.mono BB.size))).grown gr ((BB.trans (bD.mono BB.size))).size (fun k hk => ((FC.on bD).row.lt k hk).1), heapE_over (FC.on bD).row gr (on9 Fg1 bD) (by decide), heapE_over (FC.on bD).row gr (on9 Fg2 bD) (by decide), heapE_over (FC.on bD).row gr (on9 Fo bD) (by decide), ((FC.on bD)).push (FM.on bD) hlo hCB own' gr⟩
    clear bD FC Fg48 FM ee a
    refine ⟨Or.inl rfl, ?_⟩
    refine dz_ [(4, v49)] (h4_ t1 t2 t3 t5) ?_
    rintro a A ⟨t4, -⟩ ⟨t1, t2, t3, t5, -⟩
    have hcg2 : ∀ j_, j_ < i + 1 → up nv i (nu i) j_ = nu j_ ∧ up lm i (ln i) j_ = ln j_ ∧ up sg i (t i) j_ = t j_ := fun j_ hj_ => by
      by_cases q_ : j_ = i
      · subst q_
        exact ⟨up_at _ _ _, up_at _ _ _, up_at _ _ _⟩
      · have := hcg j_ (by omega)
        exact ⟨by rw [up_ne _ _ q_]; exact this.1, by rw [up_ne _ _ q_]; exact this.2.1, by rw [up_ne _ _ q_]; exact this.2.2⟩
    refine wi_ A (h5_ t1 t2 t3 t4 t5) (rv_ 1 (.int .i64 ((i + 1 : Nat) : Int)) (fun a ee => execAd8 (p := i) (q := 1) rfl (ee _) rfl (by omega)) (rf_ [(5, .int .i64 ((i + 1 : Nat) : Int))] (h4_ t1 t2 t3 t4) ?_))
    rintro a A ⟨t5, -⟩ ⟨t1, t2, t3, t4, -⟩
    exact ⟨⟨i + 1, v49, up nv i (nu i), up uw i (.slice (some ⟨gm, 0, none⟩) (ln i) cm), up lm i (ln i), up sg i (t i), lti, hcg2, A, t1, t2, t3, t4, t5, BB, Fg1, Fg2, Fo, FC2⟩, by show n - (intOf (a.eval (.tmp 5))).toNat < n - (intOf (Act.eval _ (.tmp 5))).toNat; rw [t5, esi]; show n - (i + 1) < n - i; omega⟩
  · rw [decide_eq_false lti] at t20
    refine wp_cond_false t20 ?_
    refine wp_exit ?_
    first | with_reducible refine exit_in ?_ | with_reducible refine exit_then (exit_in ?_) | with_reducible refine exit_then (exit_then (exit_in ?_)) | refine exit_in ?_ | refine exit_then (exit_in ?_) | refine exit_then (exit_then (exit_in ?_))
    clear t20 esi
    obtain rfl : n = i := by omega
    clear t5
    have hlv : ∃ a c, lv = .slice a n c := by rcases FC.row.2 with ⟨e_, e2_⟩ | ⟨g_, c_, _, e_, _⟩; exact ⟨_, _, by rw [e_, e2_]⟩; exact ⟨_, _, e_⟩
    refine wp_seq ?_
    obtain ⟨g53, egg53⟩ : ∃ z_ : Nat, XL4.heap.size = z_ := ⟨_, rfl⟩
    refine wi_ A (h4_ t1 t2 t3 t4) (rv_ 1 (.agg (epC (-77) (.slice none 0 0))) (fun a ee => execBdE1 rfl) (rv_ 2 (.agg (epC (-78) (.slice none 0 0))) (fun a ee => execBdE1 rfl) (rs_ 3 (fun a ee => ?_))))
    refine stepV rfl rfl (execBsE2 rfl (ee _) (ee _) ⟨_, _, _, rfl⟩ ⟨_, _, _, rfl⟩) ⟨.slice (some ⟨g53, 0, none⟩) 2 2, ⟨_, rfl, by subst egg53; rfl⟩, fun X8_1 hX => ?_⟩
    have bQ : Below XL4.heap.size XL4 X8_1 := by subst hX egg53; exact (belNew XL4 _)
    have FL : (X8_1.heap[g53]? = some (.cells #[.int .i64 (-77), .slice none 0 0, .int .i64 (-78), .slice none 0 0] 47)) := by subst hX egg53; exact heapNew XL4 _
    replace Fg1 := (on9 Fg1 bQ)
    replace Fg2 := (on9 Fg2 bQ)
    replace Fo := (on9 Fo bQ)
    replace FC := (FC.on bQ)
    replace BB := BB.trans (bQ.mono BB.size)
    clear bQ hX egg53 ee a
    refine rs_ 4 (fun a ee => ?_)
    refine stepAppE2 rfl rfl rfl (ee _) (ee _) FC.row FL rfl rfl (by omega) (BB).size fun v54 X8 own' gr => ⟨_, ⟨_, rfl, rfl⟩, eqw ?_⟩
    obtain ⟨BB, Fg1, Fg2, Fo, FR, FXs, FDs⟩ : Below V.heap.size V X8 ∧ (X8.heap[g1]? = some (.cells (wC nw ev) 24)) ∧ (X8.heap[g2]? = some (.cells (wC 0 (.slice none 0 0)) 24)) ∧ (X8.heap[g3]? = some (.cells (wC nw (.slice none 0 0)) 24)) ∧ (X8.ownsRow V.heap.size 47 2 v54 (n + 2) (epV (up (up nv n (-77)) (n + 1) (-78)) (up (up uw n (.slice none 0 0)) (n + 1) (.slice none 0 0)) (n + 2))) ∧ (∀ j_, j_ < n → Mkd V.heap.size X8 (uw j_) (lm j_) (sg j_)) ∧ (∀ i_ j_, i_ < n → j_ < n → i_ ≠ j_ → ∀ b_, (uw i_).ownBlock = some b_ → (uw j_).ownBlock ≠ some b_) := ⟨(BB).grown gr (BB).size (fun k hk => (FC.row.lt k hk).1), heapE_over FC.row gr Fg1 (by decide), heapE_over FC.row gr Fg2 (by decide), heapE_over FC.row gr Fo (by decide), own', fun j_ hj_ => ((FC).lists j_ hj_).overE FC.row gr, (FC).dis⟩
    clear FC FL ee a
    refine rf_ [(7, v54)] (h3_ t2 t3 t4) ?_
    rintro a A ⟨t7, -⟩ ⟨t2, t3, t4, -⟩
    obtain ⟨gf, cf, ef, hcf⟩ := own_some FR (by omega)
    rw [ef] at FR t7
    refine wp_seq ?_
    refine wi_ A (h4_ t2 t3 t4 t7) (rv_ 2 (.int .i64 ((n : Nat) : Int)) (fun a ee => execLenEs (len := n) rfl (ee _) hlv) (rv_ 3 (.slice (some ⟨gf, 0, none⟩) n cf) (fun a ee => execSlHE rfl (ee _) (ee _) (by omega)) (rv_ 4 (.pointer (some ⟨g3, 1, none⟩)) (fun a ee => execFldW1 rfl (ee _)) (rs_ 5 (fun a ee => ?_)))))
    refine stepS rfl rfl (execStEs rfl (ee _) (ee _) ⟨_, _, _, rfl⟩ (wC_1 Fo) (frozen4 Fo)) ⟨_, ⟨_, rfl, rfl⟩, fun X9 hX => ?_⟩
    obtain ⟨BB, Fg1, Fg2, FR, FXs, Fo2⟩ : Below V.heap.size V X9 ∧ (X9.heap[g1]? = some (.cells (wC nw ev) 24)) ∧ (X9.heap[g2]? = some (.cells (wC 0 (.slice none 0 0)) 24)) ∧ (X9.ownsRow V.heap.size 47 2 (.slice (some ⟨gf, 0, none⟩) (n + 2) cf) (n + 2) (epV (up (up nv n (-77)) (n + 1) (-78)) (up (up uw n (.slice none 0 0)) (n + 1) (.slice none 0 0)) (n + 2))) ∧ (∀ j_, j_ < n → Mkd V.heap.size X9 (uw j_) (lm j_) (sg j_)) ∧ (X9.heap[g3]? = some (.cells (wC nw (.slice (some ⟨gf, 0, none⟩) n cf)) 24)) := by subst hX; exact ⟨(BB).setCell FGg3 _, (by rw [heap4o _ Fo (Ne.symm FNg1g3).symm]; exact Fg1), (by rw [heap4o _ Fo (Ne.symm FNg2g3).symm]; exact Fg2), ownE_setC FR Fo (by decide), (fun j_ hj_ => (FXs j_ hj_).setC Fo (by decide)), wC_set Fo⟩
    clear Fo hX ee a
    refine rf_ [] (h2_ t2 t3) ?_
    rintro a A - ⟨t2, t3, -⟩
    refine wp_seq ?_
    refine wi_ A (h2_ t2 t3) (rv_ 0 (.agg (wC nw (.slice (some ⟨gf, 0, none⟩) n cf))) (fun a ee => execLdWn rfl (ee _) Fo2) (rs_ 1 (fun a ee => ?_)))
    refine stepS rfl rfl (execStWn rfl (ee _) (ee _) Fg2 rfl) ⟨_, ⟨_, rfl, rfl⟩, fun X10 hX => ?_⟩
    obtain ⟨BB, FR, FXs, Fr⟩ : Below V.heap.size V X10 ∧ (X10.ownsRow V.heap.size 47 2 (.slice (some ⟨gf, 0, none⟩) (n + 2) cf) (n + 2) (epV (up (up nv n (-77)) (n + 1) (-78)) (up (up uw n (.slice none 0 0)) (n + 1) (.slice none 0 0)) (n + 2))) ∧ (∀ j_, j_ < n → Mkd V.heap.size X10 (uw j_) (lm j_) (sg j_)) ∧ (X10.heap[g2]? = some (.cells (wC nw (.slice (some ⟨gf, 0, none⟩) n cf)) 24)) := by subst hX; exact ⟨below4 BB FGg2 _, ownE_setT FR Fg2 (by decide), (fun j_ hj_ => (FXs j_ hj_).setT Fg2 (by decide)), setRow_heap _ _ _ _ _ _ Fg2⟩
    clear Fg1 Fg2 Fo2 hX ee a
    refine rf_ [] (h1_ t2) ?_
    rintro a A - ⟨t2, -⟩
    refine wp_ret ?_
    refine bodyPost_ret (results_cell_row Try.results9 _ _ g2 24 _ (0, 0) _ t2 Fr Try.underlying24 rfl (sizeW _ _)) A.2 ⟨⟨.slice (some ⟨gf, 0, none⟩) n cf, uw, rfl, gf, cf, rfl, ?_, ?_, FDs⟩, BB⟩
    · rw [epV_cg (n + 2) (nu2 := up (up nv n (-77)) (n + 1) (-78)) (tw2 := up (up uw n (.slice none 0 0)) (n + 1) (.slice none 0 0)) (fun j_ hj_ => ?_) (fun _ _ => rfl)]
      · exact FR
      · by_cases q1 : j_ = n + 1
        · subst q1
          rw [up_at, up_at]
        · rw [up_ne _ _ q1, up_ne _ _ q1]
          by_cases q2 : j_ = n
          · subst q2
            rw [up_at, up_at]
          · rw [up_ne _ _ q2, up_ne _ _ q2]
            exact (hcg j_ (by omega)).1.symm
    · intro j_ hj_
      have h_ := FXs j_ hj_
      rw [(hcg j_ hj_).2.1, (hcg j_ hj_).2.2] at h_
      exact h_
end Go.Proofs.Ytijibdapooalcab.Win
