import Derived.Test.YtijibdapooalcabL9e
namespace Go.Proofs.Ytijibdapooalcab.Win
open Go.RowKit Gf8 Aes By8 Cel Cf
/- WindowKeeps: what lies while the law's apart goes on: the lists marked, and grown. -/

/-- What stays beside the rows: the windows, the list of lists, the two tables. -/
structure Rs (D : ApD) (m : Nat) (x : Nat → Value) (lv : Value) (R1 R2 : Nat) (mo me : Nat → Value) (W : World) : Prop where
  ws : W.heap[D.gw]? = some (.cells D.cw 24)
  li : W.ownsRow D.V.heap.size 25 1 lv m (vL x m)
  tg : Tb W R1 25 m mo
  te : Tb W R2 22 4 me
  r1 : ∀ b, lv.ownBlock = some b → b ≠ R1
  b1 : D.V.heap.size ≤ R1
  b2 : D.V.heap.size ≤ R2
  bel : Below D.B D.V W
  sv : Sv D W
section
variable {D : ApD} {m : Nat} {x : Nat → Value} {lv : Value} {R1 R2 : Nat} {mo me : Nat → Value} {W W' : World}
theorem Rs.on (h : Rs D m x lv R1 R2 mo me W) (hH : ApH D) (hb : Below W.heap.size W W') : Rs D m x lv R1 R2 mo me W' :=
  ⟨by rw [hb.block _ (Array.getElem?_eq_some_iff.1 h.ws).1]; exact h.ws, ownE_below h.li hb, h.tg.on hb, h.te.on hb, h.r1, h.b1, h.b2, h.bel.trans (hb.mono (Nat.le_trans hH.hB h.bel.size)), h.sv.on h.bel.size hb⟩
theorem Rs.grow {n2 s2 : Nat} {v : Value} {ys : List Value} {t2 : TypeId} (h : Rs D m x lv R1 R2 mo me W) (hH : ApH D) (hu : W.ownsRow D.B t2 s2 v n2 ys) (gr : W.grownBy W' v.ownBlock) (hG : ∀ b, v.ownBlock = some b → D.V.heap.size ≤ b ∨ GD D b) (h1 : 25 ≠ t2) (h2 : 22 ≠ t2) (h3 : 24 ≠ t2) : Rs D m x lv R1 R2 mo me W' :=
  ⟨heapE_over hu gr h.ws h3, ownE_over h.li hu gr h1, h.tg.over hu gr h1, h.te.over hu gr h2, h.r1, h.b1, h.b2, h.bel.grown gr (Nat.le_trans hH.hB h.bel.size) (fun k hk => (hu.lt k hk).1), h.sv.grown h.bel.size gr hG⟩
theorem Rs.putT (h : Rs D m x lv R1 R2 mo me W) (hH : ApH D) (i : Nat) (u : Value) : Rs D m x lv R1 R2 (up mo i u) me (W.setCell ⟨R1, 0 + i, none⟩ u) := by
  obtain ⟨c, hc, _⟩ := h.tg
  obtain ⟨d, hd, _⟩ := h.te
  exact ⟨heapG h.ws hc (by decide) grown_cell, ownG h.li grown_cell (fun b hb e => h.r1 b hb (Option.some.inj e).symm), h.tg.put i u, h.te.off grown_cell (ne_type hc hd (by decide)), h.r1, h.b1, h.b2, h.bel.grown grown_cell (Nat.le_trans hH.hB h.bel.size) (fun k hk => by obtain rfl := Option.some.inj hk; exact Nat.le_trans hH.hB h.b1), h.sv.grown h.bel.size grown_cell (fun k hk => by obtain rfl := Option.some.inj hk; exact Or.inl h.b1)⟩
theorem Rs.putE (h : Rs D m x lv R1 R2 mo me W) (hH : ApH D) (i : Nat) (u : Value) : Rs D m x lv R1 R2 mo (up me i u) (W.setCell ⟨R2, 0 + i, none⟩ u) := by
  obtain ⟨c, hc, _⟩ := h.tg
  obtain ⟨d, hd, _⟩ := h.te
  exact ⟨heapG h.ws hd (by decide) grown_cell, ownG_T h.li hd (by decide) grown_cell, h.tg.off grown_cell (ne_type hd hc (by decide)), h.te.put i u, h.r1, h.b1, h.b2, h.bel.grown grown_cell (Nat.le_trans hH.hB h.bel.size) (fun k hk => by obtain rfl := Option.some.inj hk; exact Nat.le_trans hH.hB h.b2), h.sv.grown h.bel.size grown_cell (fun k hk => by obtain rfl := Option.some.inj hk; exact Or.inl h.b2)⟩
theorem Rs.cg {mo2 me2 : Nat → Value} (h : Rs D m x lv R1 R2 mo me W) (e1 : ∀ t, t < m → mo t = mo2 t) (e2 : ∀ t, t < 4 → me t = me2 t) : Rs D m x lv R1 R2 mo2 me2 W := by
  obtain ⟨c, hc, c1, c2⟩ := h.tg
  obtain ⟨d, hd, d1, d2⟩ := h.te
  exact ⟨h.ws, h.li, ⟨c, hc, c1, fun t ht => by rw [← e1 t ht]; exact c2 t ht⟩, ⟨d, hd, d1, fun t ht => by rw [← e2 t ht]; exact d2 t ht⟩, h.r1, h.b1, h.b2, h.bel, h.sv⟩
/-- The window's list of epochs. -/
theorem Rs.wat (h : Rs D m x lv R1 R2 mo me W) (hH : ApH D) {k : Nat} (hk : k < 4) : W.cell? ⟨D.gw, 0 + k * 2 + 1, none⟩ = some (D.e k) := by
  rw [cell_of_row _ _ _ _ _ _ h.ws, Nat.zero_add]
  exact hH.he k hk
/-- The list of lists. -/
theorem own_vat {W : World} {B g c m t : Nat} {ty : TypeId} {x : Nat → Value} (h : W.ownsRow B ty 1 (.slice (some ⟨g, 0, none⟩) m c) m (vL x m)) (ht : t < m) : W.cell? ⟨g, 0 + t, none⟩ = some (x t) := by
  rcases h.2 with ⟨e, _⟩ | ⟨g', cap, cur, e, _, hg, q1, q2, q3, q4⟩
  · cases e
  · obtain ⟨rfl, rfl⟩ := slc_inj e
    have h5 := vL_at x ht
    rw [← q4, List.getElem?_take_of_lt (by omega)] at h5
    rw [cell_of_row _ _ _ _ _ _ hg, Nat.zero_add, ← Array.getElem?_toList]
    exact h5
end
/-- The lists are marked. -/
def mkF (f : Nat → Nat → Nat → Nat) (i j t : Nat) : Nat → Nat → Nat := fun l => if t < i ∨ (t = i ∧ l < j) then mkB 1 t else f t l
structure P3 (D : ApD) (m : Nat) (x : Nat → Value) (nn : Nat → Nat) (f : Nat → Nat → Nat → Nat) (lv : Value) (R1 R2 : Nat) (mo me : Nat → Value) (W : World) : Prop where
  ft : Fr 36 16 D.B m x nn (fun t => tgV (f t) (nn t)) W
  fe : Fr 47 2 D.B 4 D.e D.n (fun k => epV (fun _ => -100 - (k : Int)) (D.tw k) (D.n k)) W
  rs : Rs D m x lv R1 R2 mo me W
  sx : ∀ t, t < m → ∀ b, (x t).ownBlock = some b → GD D b
section
variable {D : ApD} {m : Nat} {x : Nat → Value} {nn : Nat → Nat} {f : Nat → Nat → Nat → Nat} {lv : Value} {R1 R2 : Nat} {mo me : Nat → Value} {W W' : World}
theorem P3.on (h : P3 D m x nn f lv R1 R2 mo me W) (hH : ApH D) (hb : Below W.heap.size W W') : P3 D m x nn f lv R1 R2 mo me W' := ⟨h.ft.on hb, h.fe.on hb, h.rs.on hH hb, h.sx⟩
theorem P3.mark {i j : Nat} (h : P3 D m x nn (mkF f i j) lv R1 R2 mo me W) (hH : ApH D) (hi : i < m) {g c : Nat} (hx : x i = .slice (some ⟨g, 0, none⟩) (nn i) c) (own : W'.ownsRow D.B 36 16 (.slice (some ⟨g, 0, none⟩) (nn i) c) (nn i) (tgV (up (mkF f i j i) j (mkB 1 i)) (nn i))) (gr : W.grownBy W' (some g)) : P3 D m x nn (mkF f i (j + 1)) lv R1 R2 mo me W' := by
  have hb : (x i).ownBlock = some g := by rw [hx]; rfl
  rw [← hx] at own
  have gr' : W.grownBy W' (x i).ownBlock := by rw [hb]; exact gr
  refine ⟨(h.ft.put hi hb own gr).cg fun t ht => ?_, h.fe.over (h.ft.rows i hi) gr' (by decide), h.rs.grow hH (h.ft.rows i hi) gr' (fun b q => Or.inr (h.sx i hi b q)) (by decide) (by decide) (by decide), h.sx⟩
  by_cases e : t = i
  · subst e
    rw [up_at]
    refine tgV_cg _ fun l _ => ?_
    unfold mkF
    by_cases q : l = j
    · subst q
      rw [up_at, if_pos (by omega)]
    · rw [up_ne _ _ q]
      by_cases q2 : l < j
      · rw [if_pos (by omega), if_pos (by omega)]
      · rw [if_neg (by omega), if_neg (by omega)]
  · rw [up_ne _ _ e]
    refine tgV_cg _ fun l _ => ?_
    unfold mkF
    by_cases q2 : t < i
    · rw [if_pos (by omega), if_pos (by omega)]
    · rw [if_neg (by omega), if_neg (by omega)]
theorem P3.next {i : Nat} (h : P3 D m x nn (mkF f i (nn i)) lv R1 R2 mo me W) : P3 D m x nn (mkF f (i + 1) 0) lv R1 R2 mo me W :=
  ⟨h.ft.cg fun t _ => tgV_cg _ fun l hl => by
    unfold mkF
    by_cases q : t < i
    · rw [if_pos (by omega), if_pos (by omega)]
    · by_cases q2 : t = i
      · subst q2
        rw [if_pos (by omega), if_pos (by omega)]
      · rw [if_neg (by omega), if_neg (by omega)], h.fe, h.rs, h.sx⟩
theorem P3.putT (h : P3 D m x nn f lv R1 R2 mo me W) (hH : ApH D) (i : Nat) (u : Value) : P3 D m x nn f lv R1 R2 (up mo i u) me (W.setCell ⟨R1, 0 + i, none⟩ u) := by
  obtain ⟨c, hc, _⟩ := h.rs.tg
  exact ⟨h.ft.offT hc (by decide) grown_cell, h.fe.offT hc (by decide) grown_cell, h.rs.putT hH i u, h.sx⟩
theorem P3.putE (h : P3 D m x nn f lv R1 R2 mo me W) (hH : ApH D) (i : Nat) (u : Value) : P3 D m x nn f lv R1 R2 mo (up me i u) (W.setCell ⟨R2, 0 + i, none⟩ u) := by
  obtain ⟨c, hc, _⟩ := h.rs.te
  exact ⟨h.ft.offT hc (by decide) grown_cell, h.fe.offT hc (by decide) grown_cell, h.rs.putE hH i u, h.sx⟩
theorem P3.cg {mo2 me2 : Nat → Value} (h : P3 D m x nn f lv R1 R2 mo me W) (e1 : ∀ t, t < m → mo t = mo2 t) (e2 : ∀ t, t < 4 → me t = me2 t) : P3 D m x nn f lv R1 R2 mo2 me2 W := ⟨h.ft, h.fe, h.rs.cg e1 e2, h.sx⟩
end
/-- The lists grown. -/
structure P5 (D : ApD) (m : Nat) (x : Nat → Value) (nn : Nat → Nat) (lv : Value) (R1 R2 : Nat) (mo me y z : Nat → Value) (dd de : Nat → Nat) (W : World) : Prop where
  gt : Gr 36 16 D.B m x y nn dd (fun t => tgV (fun _ => mkB 1 t) (nn t)) (fun t => tgV (fun _ => mkB 2 t) (dd t)) W
  ge : Gr 47 2 D.B 4 D.e z D.n de (fun k => epV (fun _ => -100 - (k : Int)) (D.tw k) (D.n k)) (fun k => epV (fun _ => -200 - (k : Int)) (fun _ => .slice none 0 0) (de k)) W
  rs : Rs D m x lv R1 R2 mo me W
  sx : ∀ t, t < m → ∀ b, (x t).ownBlock = some b → GD D b
  sy : ∀ t, t < m → ∀ b, (y t).ownBlock = some b → D.V.heap.size ≤ b ∨ GD D b
  sz : ∀ t, t < 4 → ∀ b, (z t).ownBlock = some b → D.V.heap.size ≤ b ∨ GD D b
section
variable {D : ApD} {m : Nat} {x : Nat → Value} {nn : Nat → Nat} {f : Nat → Nat → Nat → Nat} {lv : Value} {R1 R2 : Nat} {mo me y z : Nat → Value} {dd de : Nat → Nat} {W W' : World}
theorem P5.on (h : P5 D m x nn lv R1 R2 mo me y z dd de W) (hH : ApH D) (hb : Below W.heap.size W W') : P5 D m x nn lv R1 R2 mo me y z dd de W' := ⟨h.gt.on hb, h.ge.on hb, h.rs.on hH hb, h.sx, h.sy, h.sz⟩
theorem P5.begin (h : P3 D m x nn (mkF f m 0) lv R1 R2 x D.e W) : P5 D m x nn lv R1 R2 x D.e x D.e (fun _ => 0) (fun _ => 0) W :=
  ⟨Gr.begin (h.ft.cg fun t ht => tgV_cg _ fun l _ => by unfold mkF; rw [if_pos (by omega)]), Gr.begin h.fe, h.rs, h.sx, fun t ht b q => Or.inr (h.sx t ht b q), fun t ht b q => Or.inr (Or.inl ⟨t, ht, q⟩)⟩
theorem P5.putT (h : P5 D m x nn lv R1 R2 mo me y z dd de W) (hH : ApH D) (i : Nat) (u : Value) : P5 D m x nn lv R1 R2 (up mo i u) me y z dd de (W.setCell ⟨R1, 0 + i, none⟩ u) := by
  obtain ⟨c, hc, _⟩ := h.rs.tg
  exact ⟨h.gt.offT hc (by decide) grown_cell, h.ge.offT hc (by decide) grown_cell, h.rs.putT hH i u, h.sx, h.sy, h.sz⟩
theorem P5.putE (h : P5 D m x nn lv R1 R2 mo me y z dd de W) (hH : ApH D) (i : Nat) (u : Value) : P5 D m x nn lv R1 R2 mo (up me i u) y z dd de (W.setCell ⟨R2, 0 + i, none⟩ u) := by
  obtain ⟨c, hc, _⟩ := h.rs.te
  exact ⟨h.gt.offT hc (by decide) grown_cell, h.ge.offT hc (by decide) grown_cell, h.rs.putE hH i u, h.sx, h.sy, h.sz⟩
theorem P5.cg {dd2 de2 : Nat → Nat} (h : P5 D m x nn lv R1 R2 mo me y z dd de W) (e1 : ∀ t, t < m → dd t = dd2 t) (e2 : ∀ t, t < 4 → de t = de2 t) : P5 D m x nn lv R1 R2 mo me y z dd2 de2 W :=
  ⟨h.gt.cg e1 (fun t ht => by rw [e1 t ht]), h.ge.cg e2 (fun t ht => by rw [e2 t ht]), h.rs, h.sx, h.sy, h.sz⟩
theorem new_of {v v' : Value} {n k : Nat} (hs : D.V.heap.size ≤ W.heap.size) (hv : ∀ b, v.ownBlock = some b → D.V.heap.size ≤ b ∨ GD D b) (hp : (∃ b c, v = .slice (some ⟨b, 0, none⟩) n c ∧ v' = .slice (some ⟨b, 0, none⟩) (n + k) c ∧ W.grownBy W' (some b)) ∨ (Below W.heap.size W W' ∧ ∀ k, v'.ownBlock = some k → W.heap.size ≤ k)) : ∀ b, v'.ownBlock = some b → D.V.heap.size ≤ b ∨ GD D b := fun b hb => by
  rcases hp with ⟨g, c, e, e2, _⟩ | ⟨_, h2⟩
  · refine hv b ?_
    rw [e2] at hb
    rw [e]
    exact hb
  · exact Or.inl (Nat.le_trans hs (h2 b hb))
theorem up_all {y : Nat → Value} {i m : Nat} {u : Value} {G : Nat → Prop} (h : ∀ t, t < m → ∀ b, (y t).ownBlock = some b → G b) (hu : ∀ b, u.ownBlock = some b → G b) : ∀ t, t < m → ∀ b, (up y i u t).ownBlock = some b → G b := fun t ht b hb => by
  by_cases e : t = i
  · subst e
    rw [up_at] at hb
    exact hu b hb
  · rw [up_ne _ _ e] at hb
    exact h t ht b hb
theorem grow_of {v v' : Value} {n k : Nat} (hp : (∃ b c, v = .slice (some ⟨b, 0, none⟩) n c ∧ v' = .slice (some ⟨b, 0, none⟩) (n + k) c ∧ W.grownBy W' (some b)) ∨ (Below W.heap.size W W' ∧ ∀ k, v'.ownBlock = some k → W.heap.size ≤ k)) : W.grownBy W' v.ownBlock := by
  rcases hp with ⟨b, c, e, _, gr⟩ | ⟨hb, _⟩
  · rw [e]
    exact gr
  · exact ⟨hb.os, hb.tape, hb.output, hb.size, fun k hk _ => hb.block k hk⟩
end
/-- append of a mark to a list. -/
theorem stepApM {ops : Array Oper} {Q : Exit → Act → World → Prop} {K : Act → World → Prop} {j : Nat} {o : Oper} {a : Act} {W : World} {s p : Operand} {g i : Nat} {D : ApD} {m : Nat} {x : Nat → Value} {nn : Nat → Nat} {lv : Value} {R1 R2 : Nat} {mo me y z : Nat → Value} {dd de : Nat → Nat} (hos : ops[j]? = some o) (hgd : Region.wanted o (yielded ops a.tmps) = true)
    (ho : o.op = .call { callee := .builtin .append, args := #[s, p], argTypes := #[25, 25] }) (hs : a.eval s = y i) (hx : a.eval p = .slice (some ⟨g, 0, none⟩) 1 1) (h : P5 D m x nn lv R1 R2 mo me y z dd de W) (hH : ApH D) (hi : i < m) (hg : W.heap[g]? = some (.cells (bA 16 (mkB 2 i)) 36)) (hn : nn i ≤ 1000000) (hd : dd i ≤ 1000)
    (hK : ∀ v' W', P5 D m x nn lv R1 R2 mo me (up y i v') z (up dd i (dd i + 1)) de W' → Below D.B D.V W' → (∃ g n c, v' = .slice g n c) → K (a.put o.dst v') W') : wpOp Try.prog ops Q j K a W := by
  obtain ⟨q, q1, q2, q3, q4⟩ := info16
  have own := h.gt.ry i hi
  obtain ⟨v', W', hr, r1, r2⟩ := run_appG W 25 o.type 36 q (.agg (bA 16 fun _ => 0)) 16 16 Try.underlying25 q1 q2 q3 q4 (by simp [Value.cells, bA_size]) (by decide) D.B (nn i + dd i) 1 (y i) _ (bytesL 16 (mkB 2 i)) own ⟨g, 0, none⟩ 1 (by rw [bytesL_len]) (fun j u hu => by
    rw [Go.WideShapes.add_plain, cell_of_row _ _ _ _ _ _ hg, Nat.zero_add, ← Array.getElem?_toList]
    exact hu) (fun u hu => by
    unfold bytesL at hu
    obtain ⟨r, _, rfl⟩ := List.mem_map.1 hu
    rfl) (by omega) (by omega) (by omega) (Nat.le_trans hH.hB h.rs.bel.size)
  have gr := grow_of r2
  have hm := h.gt.more hi r1 r2
  have P : P5 D m x nn lv R1 R2 mo me (up y i v') z (up dd i (dd i + 1)) de W' := ⟨hm.cg (fun _ _ => rfl) (fun t ht => by
    by_cases e : t = i
    · subst e
      rw [up_at, up_at, tgV]
    · rw [up_ne _ _ e, up_ne _ _ e]), h.ge.over own gr (by decide), h.rs.grow hH own gr (h.sy i hi) (by decide) (by decide) (by decide), h.sx, up_all h.sy (new_of h.rs.bel.size (h.sy i hi) r2), h.sz⟩
  refine stepV hos hgd (v := v') (w' := W') ?_ (hK v' W' P P.rs.bel (ownE_shp r1))
  unfold execOp
  simp only [ho, resolve, invoke, builtin, Sem.run_bind, Sem.run_pure, Result.andThen_ok, List.map_toArray, List.map_cons, List.map_nil, hs, hx, hr]
/-- append of an epoch to a list of epochs. -/
theorem stepApN {ops : Array Oper} {Q : Exit → Act → World → Prop} {K : Act → World → Prop} {j : Nat} {o : Oper} {a : Act} {W : World} {s p : Operand} {g i : Nat} {D : ApD} {m : Nat} {x : Nat → Value} {nn : Nat → Nat} {lv : Value} {R1 R2 : Nat} {mo me y z : Nat → Value} {dd de : Nat → Nat} (hos : ops[j]? = some o) (hgd : Region.wanted o (yielded ops a.tmps) = true)
    (ho : o.op = .call { callee := .builtin .append, args := #[s, p], argTypes := #[22, 22] }) (hs : a.eval s = z i) (hx : a.eval p = .slice (some ⟨g, 0, none⟩) 1 1) (h : P5 D m x nn lv R1 R2 mo me y z dd de W) (hH : ApH D) (hi : i < 4) (hg : W.heap[g]? = some (.cells (epC (-200 - (i : Int)) (.slice none 0 0)) 47)) (hd : de i ≤ 1000)
    (hK : ∀ v' W', P5 D m x nn lv R1 R2 mo me y (up z i v') dd (up de i (de i + 1)) W' → Below D.B D.V W' → (∃ g n c, v' = .slice g n c) → K (a.put o.dst v') W') : wpOp Try.prog ops Q j K a W := by
  obtain ⟨q, q1, q2, q3, q4⟩ := infoEp
  have own := h.ge.ry i hi
  have hn := hH.n60 i hi
  obtain ⟨v', W', hr, r1, r2⟩ := run_appG W 22 o.type 47 q (.agg (epC 0 (.slice none 0 0))) 2 32 Try.underlying22 q1 q2 q3 q4 rfl (by decide) D.B (D.n i + de i) 1 (z i) _ [.int .i64 (-200 - (i : Int)), .slice none 0 0] own ⟨g, 0, none⟩ 1 rfl (fun j u hu => by
    rw [Go.WideShapes.add_plain, cell_of_row _ _ _ _ _ _ hg, Nat.zero_add, ← Array.getElem?_toList]
    exact hu) (fun u hu => by
    simp only [List.mem_cons, List.not_mem_nil, or_false] at hu
    rcases hu with rfl | rfl <;> rfl) (by omega) (by omega) (by omega) (Nat.le_trans hH.hB h.rs.bel.size)
  have gr := grow_of r2
  have hm := h.ge.more hi r1 r2
  have P : P5 D m x nn lv R1 R2 mo me y (up z i v') dd (up de i (de i + 1)) W' := ⟨h.gt.over own gr (by decide), hm.cg (fun _ _ => rfl) (fun t ht => by
    by_cases e : t = i
    · subst e
      rw [up_at, up_at, epV]
    · rw [up_ne _ _ e, up_ne _ _ e]), h.rs.grow hH own gr (h.sz i hi) (by decide) (by decide) (by decide), h.sx, h.sy, up_all h.sz (new_of h.rs.bel.size (h.sz i hi) r2)⟩
  refine stepV hos hgd (v := v') (w' := W') ?_ (hK v' W' P P.rs.bel (ownE_shp r1))
  unfold execOp
  simp only [ho, resolve, invoke, builtin, Sem.run_bind, Sem.run_pure, Result.andThen_ok, List.map_toArray, List.map_cons, List.map_nil, hs, hx, hr]
/-- append of a list to the list of lists. -/
theorem stepApL {ops : Array Oper} {Q : Exit → Act → World → Prop} {K : Act → World → Prop} {j : Nat} {o : Oper} {a : Act} {W : World} {s p : Operand} {g i jl jn L : Nat} {D : ApD} {pr : Nat → Nat × Nat} {lv : Value} (hos : ops[j]? = some o) (hgd : Region.wanted o (yielded ops a.tmps) = true)
    (ho : o.op = .call { callee := .builtin .append, args := #[s, p], argTypes := #[61, 61] }) (hs : a.eval s = lv) (hx : a.eval p = .slice (some ⟨g, 0, none⟩) 1 1) (h : P1 D i jl jn L pr lv W) (hH : ApH D) (hi : i < 4) (hj : jl < D.n i) (hg : W.heap[g]? = some (.cells #[D.tw i jl] 25))
    (hK : ∀ v' W', P1 D i (jl + 1) jn (L + 1) (up pr L (i, jl)) v' W' → Below D.B D.V W' → K (a.put o.dst v') W') : wpOp Try.prog ops Q j K a W := by
  obtain ⟨q, q1, q2, q3, q4⟩ := infoTL
  have hb := h.bd
  have hn := hH.n60 i hi
  have hsh := ownE_shp (hH.rowT i hi jl hj)
  obtain ⟨v', W', hr, r1, r2, _⟩ := run_append_own (P := Try.prog) W D.V.heap.size 61 o.type 25 q (.slice none 0 0) 1 24 Try.underlying61 q1 q2 q3 q4 rfl (by decide) lv L _ h.li ⟨g, 0, none⟩ 1 1 [D.tw i jl] rfl (fun j u hu => by
    rw [Go.WideShapes.add_plain, cell_of_row _ _ _ _ _ _ hg, Nat.zero_add, ← Array.getElem?_toList]
    exact hu) (fun u hu => by
    simp only [List.mem_cons, List.not_mem_nil, or_false] at hu
    rw [hu]
    exact slc_one hsh) (by unfold maxLen; omega) (by omega) h.bel.size
  have P := h.push hH hi hj r1 r2
  refine stepV hos hgd (v := v') (w' := W') ?_ (hK v' W' P P.bel)
  unfold execOp
  simp only [ho, resolve, invoke, builtin, Sem.run_bind, Sem.run_pure, Result.andThen_ok, List.map_toArray, List.map_cons, List.map_nil, hs, hx, hr]
end Go.Proofs.Ytijibdapooalcab.Win
