import Derived.Test.YtmllfmnpcidkbaaN8a
namespace Go.Proofs.Ytmllfmnpcidkbaa.Loo
open Go.RowKit Gf8 Aes By8 Cel Cf Win Drw Prm
/- A run in memory: what is read, what is written. -/

section
variable {W X : World} {P : Nat → Prop} {T : TypeId} {S : Value} {n : Nat} {f g : Nat → Value}
theorem RowP.set (h : RowP W P T S n f) {b cap i : Nat} {u : Value} (e : S = .slice (some ⟨b, 0, none⟩) n cap) (hi : i < n) : RowP (W.setCell ⟨b, i, none⟩ u) P T S n (upf f i u) ∧ P b := by
  obtain ⟨b', cap', cur, h1, h2, h3, h4, h5⟩ := h.open hi
  rw [e] at h1
  injection h1 with h1
  injection h1 with h1
  injection h1 with h1
  subst h1
  refine ⟨Or.inr ⟨b, cap, _, e, h2, heap4 u h3, by simpa using h4, fun j hj => ?_⟩, h2⟩
  by_cases q : j = i
  · subst q
    rw [Array.getElem?_setIfInBounds_self_of_lt (by omega), upf_at]
  · rw [Array.getElem?_setIfInBounds_ne (fun z => q z.symm), h5 j hj, upf_ne _ _ q]
end
section
variable {p : Pl} {A : Ad} {U W X V : World} {ow ow' ow0 : Nat → Nat} {M N : Mm} {c c0 t i z : Nat}
theorem oH_inj {s t : Nat} (h : oH s = oH t) : s = t := by unfold oH at h; omega
theorem oD_inj {s t : Nat} (h : oD s = oD t) : s = t := by unfold oD at h; omega
theorem oH_ne : oH t ≠ 0 ∧ oH t ≠ 1 ∧ oH t ≠ 2 ∧ oH t ≠ 3 ∧ oH t ≠ 4 ∧ oH t ≠ 5 ∧ ∀ i, oH t ≠ oD i := by
  unfold oH oD; exact ⟨by omega, by omega, by omega, by omega, by omega, by omega, fun i => by omega⟩
theorem oD_ne : oD i ≠ 0 ∧ oD i ≠ 1 ∧ oD i ≠ 2 ∧ oD i ≠ 3 ∧ oD i ≠ 4 ∧ oD i ≠ 5 ∧ ∀ t, oD i ≠ oH t := by
  unfold oH oD; exact ⟨by omega, by omega, by omega, by omega, by omega, by omega, fun i => by omega⟩
theorem RN.run (h : RN p A U ow M W) : ow A.rb = 1 ∧ W.heap[A.rb]? = some (.cells (rC A M.ms M.lt) 70) := (h.pc 1).1 rfl
theorem RN.dR (h : RN p A U ow M W) : RowP W (fun b => ow b = 2) 85 A.dS p.d A.dv := (h.pc 2).2.1 rfl
theorem RN.hR (h : RN p A U ow M W) : RowP W (fun b => ow b = 3) 71 A.hS p.n (fun t => pn (A.hn t)) := (h.pc 3).2.2.1 rfl
theorem RN.gR (h : RN p A U ow M W) : RowP W (fun b => ow b = 4) 71 A.gS p.d (fun i => pv A (M.gv i)) := (h.pc 4).2.2.2.1 rfl
theorem RN.tR (h : RN p A U ow M W) : RowP W (fun b => ow b = 5) 71 A.tS p.d (fun i => pv A (M.tv i)) := (h.pc 5).2.2.2.2.1 rfl
theorem RN.hand (h : RN p A U ow M W) (ht : t < p.n) : HandP W (fun b => ow b = oH t) U.heap.size (A.hn t) (A.ops t) (M.pl t) (M.rg t) (M.tk t) := (h.pc (oH t)).2.2.2.2.2.1 t rfl ht
theorem RN.duct (h : RN p A U ow M W) (hi : i < p.d) : DuctP W (fun b => ow b = oD i) (A.dv i) (M.hd i) (p.cap i).toNat (M.cl i) := (h.pc (oD i)).2.2.2.2.2.2 i rfl hi
theorem Pc.run_of (h : ow A.rb = 1 ∧ W.heap[A.rb]? = some (.cells (rC A M.ms M.lt) 70)) : Pc p A U ow M W 1 := ⟨fun _ => h, fun z => by omega, fun z => by omega, fun z => by omega, fun z => by omega, fun t z => by unfold oH at z; omega, fun i z => by unfold oD at z; omega⟩
theorem Pc.g_of (h : RowP W (fun b => ow b = 4) 71 A.gS p.d (fun i => pv A (M.gv i))) : Pc p A U ow M W 4 := ⟨fun z => by omega, fun z => by omega, fun z => by omega, fun _ => h, fun z => by omega, fun t z => by unfold oH at z; omega, fun i z => by unfold oD at z; omega⟩
theorem Pc.t_of (h : RowP W (fun b => ow b = 5) 71 A.tS p.d (fun i => pv A (M.tv i))) : Pc p A U ow M W 5 := ⟨fun z => by omega, fun z => by omega, fun z => by omega, fun z => by omega, fun _ => h, fun t z => by unfold oH at z; omega, fun i z => by unfold oD at z; omega⟩
theorem Pc.hand_of (h : t < p.n → HandP W (fun b => ow b = oH t) U.heap.size (A.hn t) (A.ops t) (M.pl t) (M.rg t) (M.tk t)) : Pc p A U ow M W (oH t) :=
  ⟨fun z => absurd z oH_ne.2.1, fun z => absurd z oH_ne.2.2.1, fun z => absurd z oH_ne.2.2.2.1, fun z => absurd z oH_ne.2.2.2.2.1, fun z => absurd z oH_ne.2.2.2.2.2.1, fun s z hs => by
    obtain rfl := oH_inj z
    exact h hs, fun i z => absurd z (oH_ne.2.2.2.2.2.2 i)⟩
theorem Pc.duct_of (h : i < p.d → DuctP W (fun b => ow b = oD i) (A.dv i) (M.hd i) (p.cap i).toNat (M.cl i)) : Pc p A U ow M W (oD i) :=
  ⟨fun z => absurd z oD_ne.2.1, fun z => absurd z oD_ne.2.2.1, fun z => absurd z oD_ne.2.2.2.1, fun z => absurd z oD_ne.2.2.2.2.1, fun z => absurd z oD_ne.2.2.2.2.2.1, fun t z => absurd z (oD_ne.2.2.2.2.2.2 t), fun s z hs => by
    obtain rfl := oD_inj z
    exact h hs⟩
theorem nC_at {g pl : Nat} {o tv : Value} {rg : Int} {T : TypeId} (h : W.heap[g]? = some (.cells (nC o pl rg tv) T)) : W.cell? ⟨g, 0, none⟩ = some o ∧ W.cell? ⟨g, 1, none⟩ = some (.int .i64 ((pl : Nat) : Int)) ∧ W.cell? ⟨g, 2, none⟩ = some (.int .i64 rg) ∧ W.cell? ⟨g, 3, none⟩ = some tv :=
  ⟨by rw [cell_of_row _ _ _ _ _ _ h]; rfl, by rw [cell_of_row _ _ _ _ _ _ h]; rfl, by rw [cell_of_row _ _ _ _ _ _ h]; rfl, by rw [cell_of_row _ _ _ _ _ _ h]; rfl⟩
theorem rC_at (h : W.heap[z]? = some (.cells (rC A M.ms M.lt) c)) : W.cell? ⟨z, 0, none⟩ = some A.dS ∧ W.cell? ⟨z, 1, none⟩ = some A.hS ∧ W.cell? ⟨z, 2, none⟩ = some A.gS ∧ W.cell? ⟨z, 3, none⟩ = some A.tS ∧ W.cell? ⟨z, 4, none⟩ = some (.int .i64 ((M.ms : Nat) : Int)) ∧ W.cell? ⟨z, 5, none⟩ = some (.int .i64 ((M.lt : Nat) : Int)) :=
  ⟨by rw [cell_of_row _ _ _ _ _ _ h]; rfl, by rw [cell_of_row _ _ _ _ _ _ h]; rfl, by rw [cell_of_row _ _ _ _ _ _ h]; rfl, by rw [cell_of_row _ _ _ _ _ _ h]; rfl, by rw [cell_of_row _ _ _ _ _ _ h]; rfl, by rw [cell_of_row _ _ _ _ _ _ h]; rfl⟩
/-- The run's cells. -/
theorem RN.rc (h : RN p A U ow M W) : W.cell? ⟨A.rb, 0, none⟩ = some A.dS ∧ W.cell? ⟨A.rb, 1, none⟩ = some A.hS ∧ W.cell? ⟨A.rb, 2, none⟩ = some A.gS ∧ W.cell? ⟨A.rb, 3, none⟩ = some A.tS ∧ W.cell? ⟨A.rb, 4, none⟩ = some (.int .i64 ((M.ms : Nat) : Int)) ∧ W.cell? ⟨A.rb, 5, none⟩ = some (.int .i64 ((M.lt : Nat) : Int)) := rC_at h.run.2
/-- A hand's cells but its list. -/
theorem RN.nc (h : RN p A U ow M W) (ht : t < p.n) : W.cell? ⟨A.hn t, 0, none⟩ = some (A.ops t) ∧ W.cell? ⟨A.hn t, 1, none⟩ = some (.int .i64 ((M.pl t : Nat) : Int)) ∧ W.cell? ⟨A.hn t, 2, none⟩ = some (.int .i64 (M.rg t)) := by
  obtain ⟨tv, _, h1, _⟩ := h.hand ht
  exact ⟨(nC_at h1).1, (nC_at h1).2.1, (nC_at h1).2.2.1⟩
theorem RN.opl (h : RN p A U ow M W) (ht : t < p.n) : SliceO W (A.ops t) (p.ln t) (p.op t) := (h.ops t ht).on h.bel
theorem sv_cell {b k : Nat} {v : Value} (h : ow b = c0) : Saved (fun b => ow b = c0) W (W.setCell ⟨b, k, none⟩ v) := (Saved.refl _ _).cell v (Or.inr h)
theorem sz_cell {b k : Nat} {v : Value} : W.heap.size ≤ (W.setCell ⟨b, k, none⟩ v).heap.size := (sv_cell (ow := fun _ => 1) (c0 := 1) rfl).size
theorem new_same (h : RN p A U ow M W) (c1 : Nat) (Y : World) : ∀ b, W.heap.size ≤ b → ow b ≠ 0 → ow b = c1 ∧ b < Y.heap.size := fun _ hb q => absurd (h.no hb) q
theorem MEq.hand (h : ∀ s, s ≠ t → M.pl s = N.pl s ∧ M.rg s = N.rg s ∧ M.tk s = N.tk s) (e1 : M.hd = N.hd) (e2 : M.cl = N.cl) (e3 : M.gv = N.gv) (e4 : M.tv = N.tv) (e5 : M.ms = N.ms) (e6 : M.lt = N.lt) : ∀ c, c ≠ oH t → MEq c M N := fun c hc =>
  ⟨fun _ => ⟨e5, e6⟩, fun _ => e3, fun _ => e4, fun s z => h s (fun w => hc (by rw [z, w])), fun i _ => ⟨by rw [e1], by rw [e2]⟩⟩
/-- The place of a hand is set. -/
theorem St.setPl (h : St p A U ow0 V ow M W) (ht : t < p.n) (hz : z ≤ p.ln t) (e : X = W.setCell ⟨A.hn t, 1, none⟩ (.int .i64 ((z : Nat) : Int))) : St p A U ow0 V ow { M with pl := upf M.pl t z } X := by
  obtain ⟨tv, h1, h2, h3, h4, h5⟩ := h.rn.hand ht
  have hne : ∀ b, tv.ownBlock = some b → b ≠ A.hn t := fun b hb q => by
    rcases h3.2 with ⟨w, _⟩ | ⟨g, cap, cur, rfl, _, hg, _⟩
    · rw [w] at hb; cases hb
    · cases hb
      subst q
      rw [h2] at hg
      injection hg with hg
      injection hg with _ hg _
      exact absurd hg (by decide)
  subst e
  refine h.upd (c0 := oH t) (sv_cell h1) oH_ne.1 (fun _ _ => rfl) (new_same h.rn _ _) (MEq.hand (fun s hs => ⟨(upf_ne _ _ hs).symm, rfl, rfl⟩) rfl rfl rfl rfl rfl rfl) (Pc.hand_of fun _ => ?_) ?_
  · refine ⟨tv, h1, ?_, own_frame (P := fun b => tv.ownBlock = some b) h3 (fun _ q => q) (fun b hb => heap4o _ h2 (hne b hb)), h4, h5⟩
    rw [heap4 _ h2]
    show some (Obj.cells (nC (A.ops t) z (M.rg t) tv) _ _) = some (Obj.cells (nC (A.ops t) (upf M.pl t z t) (M.rg t) tv) _ _)
    rw [upf_at]
  · refine { h.rn.fit with pl := fun s hs => ?_ }
    show upf M.pl t z s ≤ p.ln s
    by_cases q : s = t
    · rw [q, upf_at]; exact hz
    · rw [upf_ne _ _ q]; exact h.rn.fit.pl s hs
/-- The register of a hand is set. -/
theorem St.setRg {y : Int} (h : St p A U ow0 V ow M W) (ht : t < p.n) (hz : I64 y) (e : X = W.setCell ⟨A.hn t, 2, none⟩ (.int .i64 y)) : St p A U ow0 V ow { M with rg := upf M.rg t y } X := by
  obtain ⟨tv, h1, h2, h3, h4, h5⟩ := h.rn.hand ht
  have hne : ∀ b, tv.ownBlock = some b → b ≠ A.hn t := fun b hb q => by
    rcases h3.2 with ⟨w, _⟩ | ⟨g, cap, cur, rfl, _, hg, _⟩
    · rw [w] at hb; cases hb
    · cases hb
      subst q
      rw [h2] at hg
      injection hg with hg
      injection hg with _ hg _
      exact absurd hg (by decide)
  subst e
  refine h.upd (c0 := oH t) (sv_cell h1) oH_ne.1 (fun _ _ => rfl) (new_same h.rn _ _) (MEq.hand (fun s hs => ⟨rfl, (upf_ne _ _ hs).symm, rfl⟩) rfl rfl rfl rfl rfl rfl) (Pc.hand_of fun _ => ?_) ?_
  · refine ⟨tv, h1, ?_, own_frame (P := fun b => tv.ownBlock = some b) h3 (fun _ q => q) (fun b hb => heap4o _ h2 (hne b hb)), h4, h5⟩
    rw [heap4 _ h2]
    show some (Obj.cells (nC (A.ops t) (M.pl t) y tv) _ _) = some (Obj.cells (nC (A.ops t) (M.pl t) (upf M.rg t y t) tv) _ _)
    rw [upf_at]
  · refine { h.rn.fit with rg := fun s hs => ?_ }
    show I64 (upf M.rg t y s)
    by_cases q : s = t
    · rw [q, upf_at]; exact hz
    · rw [upf_ne _ _ q]; exact h.rn.fit.rg s hs
theorem hL_app {l : List Int} {y : Int} : ∀ j, j < (l ++ [y]).length → catI l.length (hL l) (fun _ => y) j = hL (l ++ [y]) j := by
  intro j hj
  unfold catI hL
  rw [List.length_append] at hj
  by_cases q : j < l.length
  · rw [if_pos q, List.getD_eq_getElem?_getD, List.getD_eq_getElem?_getD, List.getElem?_append_left q]
  · rw [if_neg q, List.getD_eq_getElem?_getD, List.getElem?_append_right (by omega), show j - l.length = 0 by simp at hj; omega]
    rfl
/-- A number more in a hand's list: what append answers is stored. -/
theorem St.took {y : Int} {tv v' : Value} {W' : World} (h : St p A U ow0 V ow M W) (ht : t < p.n) (hy : I64 y) (hl : (M.tk t).length < 1000000) (h1 : ow (A.hn t) = oH t) (h2 : W.heap[A.hn t]? = some (.cells (nC (A.ops t) (M.pl t) (M.rg t) tv) 89)) (h3 : W.ownsRow U.heap.size 3 1 tv (M.tk t).length (intsL (M.tk t).length (hL (M.tk t)))) (h4 : ∀ b, tv.ownBlock = some b → ow b = oH t)
    (q1 : W'.ownsRow U.heap.size 3 1 v' ((M.tk t).length + 1) (intsL ((M.tk t).length + 1) (catI (M.tk t).length (hL (M.tk t)) (fun _ => y))))
    (q2 : (∃ b c, tv = .slice (some ⟨b, 0, none⟩) (M.tk t).length c ∧ v' = .slice (some ⟨b, 0, none⟩) ((M.tk t).length + 1) c ∧ W.grownBy W' (some b)) ∨ (Below W.heap.size W W' ∧ ∀ k, v'.ownBlock = some k → W.heap.size ≤ k))
    (e : X = W'.setCell ⟨A.hn t, 3, none⟩ v') : ∃ ow', St p A U ow0 V ow' { M with tk := upf M.tk t (M.tk t ++ [y]) } X := by
  have h5 := (h.rn.hand ht)
  obtain ⟨_, _, _, _, _, h5⟩ := h5
  have hT : ∀ b, tv.ownBlock = some b → b ≠ A.hn t := fun b hb q => by
    rcases h3.2 with ⟨w, _⟩ | ⟨g, cap, cur, rfl, _, hg, _⟩
    · rw [w] at hb; cases hb
    · cases hb
      subst q
      rw [h2] at hg
      injection hg with hg
      injection hg with _ hg _
      exact absurd hg (by decide)
  have hlt : A.hn t < W.heap.size := (Array.getElem?_eq_some_iff.1 h2).1
  have key : ∃ ow' : Nat → Nat, (∀ b, b < W.heap.size → ow' b = ow b) ∧ (∀ b, W.heap.size ≤ b → ow' b ≠ 0 → ow' b = oH t ∧ b < W'.heap.size) ∧ (∀ b, v'.ownBlock = some b → ow' b = oH t ∧ b ≠ A.hn t) ∧ Saved (fun b => ow b = oH t) W W' ∧ W'.heap[A.hn t]? = W.heap[A.hn t]? := by
    rcases q2 with ⟨b, c, e1, e2, g⟩ | ⟨g, hk⟩
    · have hb := h4 b (by rw [e1]; rfl)
      have hb2 := hT b (by rw [e1]; rfl)
      refine ⟨ow, fun _ _ => rfl, fun b hb q => absurd (h.rn.no hb) q, fun k hk => ?_, (Saved.refl _ _).grown g (fun k hk => by cases hk; exact Or.inr hb), g.block _ hlt (fun w => by cases w; exact hb2 rfl)⟩
      rw [e2] at hk
      cases hk
      exact ⟨hb, hb2⟩
    · refine ⟨fun b => if v'.ownBlock = some b then oH t else ow b, fun b hb => if_neg (fun w => by have := hk b w; omega), fun b hb q => ?_, fun b hb => ⟨if_pos hb, fun w => by have := hk b hb; omega⟩, (Saved.refl _ _).below g (Nat.le_refl _), g.block _ hlt⟩
      by_cases w : v'.ownBlock = some b
      · exact ⟨if_pos w, (q1.lt b w).2⟩
      · have q : (if v'.ownBlock = some b then oH t else ow b) ≠ 0 := q
        rw [if_neg w] at q
        exact absurd (h.rn.no hb) q
  obtain ⟨ow', k1, k2, k3, k4, k5⟩ := key
  have h2' : W'.heap[A.hn t]? = some (.cells (nC (A.ops t) (M.pl t) (M.rg t) tv) 89) := by rw [k5]; exact h2
  refine ⟨ow', ?_⟩
  subst e
  refine h.upd (c0 := oH t) (k4.cell _ (Or.inr h1)) oH_ne.1 k1 (fun b hb q => ⟨(k2 b hb q).1, Nat.lt_of_lt_of_le (k2 b hb q).2 sz_cell⟩) (MEq.hand (fun s hs => ⟨rfl, rfl, (upf_ne _ _ hs).symm⟩) rfl rfl rfl rfl rfl rfl) (Pc.hand_of fun _ => ?_) ?_
  · show HandP _ _ _ _ _ (M.pl t) (M.rg t) (upf M.tk t (M.tk t ++ [y]) t)
    rw [upf_at]
    refine ⟨v', (k1 _ hlt).trans h1, heap4 _ h2', ?_, fun b hb => (k3 b hb).1, fun x hx => ?_⟩
    · rw [List.length_append]
      have e1 : intsL ((M.tk t).length + [y].length) (hL (M.tk t ++ [y])) = intsL ((M.tk t).length + 1) (catI (M.tk t).length (hL (M.tk t)) (fun _ => y)) := (intsL_congr fun j hj => hL_app j (by rw [List.length_append]; exact hj)).symm
      rw [e1]
      exact own_frame (P := fun b => v'.ownBlock = some b) q1 (fun _ q => q) (fun b hb => heap4o _ h2' (k3 b hb).2)
    · rcases List.mem_append.1 hx with q | q
      · exact h5 x q
      · rw [List.mem_singleton.1 q]; exact hy
  · refine { h.rn.fit with tk := fun s hs => ?_ }
    show (upf M.tk t (M.tk t ++ [y]) s).length ≤ 1000000
    by_cases q : s = t
    · rw [q, upf_at, List.length_append]; simp; omega
    · rw [upf_ne _ _ q]; exact h.rn.fit.tk s hs
theorem MEq.run (e1 : M.hd = N.hd) (e2 : M.cl = N.cl) (e3 : M.gv = N.gv) (e4 : M.tv = N.tv) (e5 : M.pl = N.pl) (e6 : M.rg = N.rg) (e7 : M.tk = N.tk) : ∀ c, c ≠ 1 → MEq c M N := fun c hc =>
  ⟨fun z => absurd z hc, fun _ => e3, fun _ => e4, fun s _ => ⟨by rw [e5], by rw [e6], by rw [e7]⟩, fun i _ => ⟨by rw [e1], by rw [e2]⟩⟩
theorem St.setMs (h : St p A U ow0 V ow M W) (hz : z ≤ 1000000) (e : X = W.setCell ⟨A.rb, 4, none⟩ (.int .i64 ((z : Nat) : Int))) : St p A U ow0 V ow { M with ms := z } X := by
  obtain ⟨h1, h2⟩ := h.rn.run
  subst e
  exact h.upd (c0 := 1) (sv_cell h1) (by omega) (fun _ _ => rfl) (new_same h.rn _ _) (MEq.run rfl rfl rfl rfl rfl rfl rfl) (Pc.run_of ⟨h1, heap4 _ h2⟩) { h.rn.fit with ms := hz }
theorem St.setLt (h : St p A U ow0 V ow M W) (hz : z ≤ 1000000) (e : X = W.setCell ⟨A.rb, 5, none⟩ (.int .i64 ((z : Nat) : Int))) : St p A U ow0 V ow { M with lt := z } X := by
  obtain ⟨h1, h2⟩ := h.rn.run
  subst e
  exact h.upd (c0 := 1) (sv_cell h1) (by omega) (fun _ _ => rfl) (new_same h.rn _ _) (MEq.run rfl rfl rfl rfl rfl rfl rfl) (Pc.run_of ⟨h1, heap4 _ h2⟩) { h.rn.fit with lt := hz }
theorem MEq.g_ (e1 : M.hd = N.hd) (e2 : M.cl = N.cl) (e4 : M.tv = N.tv) (e5 : M.pl = N.pl) (e6 : M.rg = N.rg) (e7 : M.tk = N.tk) (e8 : M.ms = N.ms) (e9 : M.lt = N.lt) : ∀ c, c ≠ 4 → MEq c M N := fun c hc =>
  ⟨fun _ => ⟨e8, e9⟩, fun z => absurd z hc, fun _ => e4, fun s _ => ⟨by rw [e5], by rw [e6], by rw [e7]⟩, fun i _ => ⟨by rw [e1], by rw [e2]⟩⟩
theorem MEq.t_ (e1 : M.hd = N.hd) (e2 : M.cl = N.cl) (e4 : M.gv = N.gv) (e5 : M.pl = N.pl) (e6 : M.rg = N.rg) (e7 : M.tk = N.tk) (e8 : M.ms = N.ms) (e9 : M.lt = N.lt) : ∀ c, c ≠ 5 → MEq c M N := fun c hc =>
  ⟨fun _ => ⟨e8, e9⟩, fun _ => e4, fun z => absurd z hc, fun s _ => ⟨by rw [e5], by rw [e6], by rw [e7]⟩, fun i _ => ⟨by rw [e1], by rw [e2]⟩⟩
theorem pv_upf {f : Nat → Option Nat} {s : Nat} : upf (fun i => pv A (f i)) i (pn (A.hn s)) = fun j => pv A (upf f i (some s) j) := by
  funext j
  by_cases q : j = i
  · rw [q, upf_at, upf_at]; rfl
  · rw [upf_ne _ _ q, upf_ne _ _ q]
theorem St.setG {b cap s : Nat} (h : St p A U ow0 V ow M W) (hi : i < p.d) (eS : A.gS = .slice (some ⟨b, 0, none⟩) p.d cap) (e : X = W.setCell ⟨b, i, none⟩ (pn (A.hn s))) : St p A U ow0 V ow { M with gv := upf M.gv i (some s) } X := by
  have h1 := h.rn.gR.set (u := pn (A.hn s)) eS hi
  subst e
  refine h.upd (c0 := 4) (sv_cell h1.2) (by omega) (fun _ _ => rfl) (new_same h.rn _ _) (MEq.g_ rfl rfl rfl rfl rfl rfl rfl rfl) (Pc.g_of ?_) { h.rn.fit with }
  have h2 := h1.1
  rw [pv_upf] at h2
  exact h2
theorem St.setT {b cap s : Nat} (h : St p A U ow0 V ow M W) (hi : i < p.d) (eS : A.tS = .slice (some ⟨b, 0, none⟩) p.d cap) (e : X = W.setCell ⟨b, i, none⟩ (pn (A.hn s))) : St p A U ow0 V ow { M with tv := upf M.tv i (some s) } X := by
  have h1 := h.rn.tR.set (u := pn (A.hn s)) eS hi
  subst e
  refine h.upd (c0 := 5) (sv_cell h1.2) (by omega) (fun _ _ => rfl) (new_same h.rn _ _) (MEq.t_ rfl rfl rfl rfl rfl rfl rfl rfl) (Pc.t_of ?_) { h.rn.fit with }
  have h2 := h1.1
  rw [pv_upf] at h2
  exact h2
theorem MEq.duct (h : ∀ s, s ≠ i → M.hd s = N.hd s ∧ M.cl s = N.cl s) (e3 : M.gv = N.gv) (e4 : M.tv = N.tv) (e5 : M.pl = N.pl) (e6 : M.rg = N.rg) (e7 : M.tk = N.tk) (e8 : M.ms = N.ms) (e9 : M.lt = N.lt) : ∀ c, c ≠ oD i → MEq c M N := fun c hc =>
  ⟨fun _ => ⟨e8, e9⟩, fun _ => e3, fun _ => e4, fun s _ => ⟨by rw [e5], by rw [e6], by rw [e7]⟩, fun s z => h s (fun w => hc (by rw [z, w]))⟩
theorem drI_mono {F G : Nat → Prop} {v : Value} {x : Nat → Value} {n k : Nat} {c : Bool} (h : Duc.DRI W F v x n k c) (hG : ∀ b, F b → G b) (hl : ∀ b, G b → b < W.heap.size) : Duc.DRI W G v x n k c := by
  obtain ⟨h1, h2, h3, h4⟩ := h
  refine ⟨h1, h2, hl, ?_⟩
  rcases h4 with h4 | ⟨g, r, f, m, q1, q2, q3, q4, q5⟩
  · exact Or.inl h4
  · refine Or.inr ⟨g, r, f, m, q1, hG _ q2, q3, q4, ?_⟩
    rcases q5 with q5 | ⟨b, y, w1, w2⟩
    · exact Or.inl q5
    · exact Or.inr ⟨b, y, hG _ w1, w2⟩
/-- What a call of a duct leaves. -/
theorem St.ductTo {F' : Nat → Prop} {x : Nat → Value} {n : Nat} {cl : Bool} {hd : List Int} (h : St p A U ow0 V ow M W) (R : Duc.DRI X F' (A.dv i) x n (p.cap i).toNat cl) (sv : Saved (fun b => ow b = oD i) W X) (sub : ∀ q, F' q → ow q = oD i ∨ W.heap.size ≤ q) (en : n = hd.length) (ex : ∀ j, j < n → x j = .int .i64 (hL hd j)) (hf : ∀ y ∈ hd, I64 y) :
    ∃ ow', St p A U ow0 V ow' { M with hd := upf M.hd i hd, cl := upf M.cl i cl } X := by
  classical
  subst en
  have hF : ∀ b, F' b → b < X.heap.size := R.2.2.1
  refine ⟨fun b => if b < W.heap.size then ow b else if F' b then oD i else 0, h.upd (c0 := oD i) sv oD_ne.1 (fun b hb => if_pos hb) (fun b hb q => ?_) (MEq.duct (fun s hs => ⟨(upf_ne _ _ hs).symm, (upf_ne _ _ hs).symm⟩) rfl rfl rfl rfl rfl rfl rfl) (Pc.duct_of fun _ => ?_) { h.rn.fit with }⟩
  · have q : (if b < W.heap.size then ow b else if F' b then oD i else 0) ≠ 0 := q
    show (if b < W.heap.size then ow b else if F' b then oD i else 0) = _ ∧ _
    rw [if_neg (by omega)] at q ⊢
    by_cases w : F' b
    · rw [if_pos w]; exact ⟨rfl, hF b w⟩
    · rw [if_neg w] at q; exact absurd rfl q
  · show DuctP X _ _ (upf M.hd i hd i) _ (upf M.cl i cl i)
    rw [upf_at, upf_at]
    refine ⟨(drI_mono R (fun b hb => ?_) (fun b hb => ?_)).cg ex, hf⟩
    · show (if b < W.heap.size then ow b else if F' b then oD i else 0) = oD i
      by_cases w : b < W.heap.size
      · rw [if_pos w]
        rcases sub b hb with z | z
        · exact z
        · omega
      · rw [if_neg w, if_pos hb]
    · have hb : (if b < W.heap.size then ow b else if F' b then oD i else 0) = oD i := hb
      by_cases w : b < W.heap.size
      · exact Nat.lt_of_lt_of_le w sv.size
      · rw [if_neg w] at hb
        by_cases w2 : F' b
        · exact hF b w2
        · rw [if_neg w2] at hb; exact absurd hb.symm oD_ne.1
end
end Go.Proofs.Ytmllfmnpcidkbaa.Loo
