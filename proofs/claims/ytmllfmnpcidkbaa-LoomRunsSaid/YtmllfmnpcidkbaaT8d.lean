import Derived.Test.YtmllfmnpcidkbaaT8c
namespace Go.Proofs.Ytmllfmnpcidkbaa.Loo
open Go.RowKit Gf8 Aes By8 Cel Cf Win Drw Prm
/- The log's played. Written by tools/mkT8d.py. -/

theorem grR19 {W : World} {g : Nat} {c : Array Value} : W.grownBy (W.setRow g c) (some g) := by
  have hb : Below g W (W.setRow g c) := below4 (Below.refl _ _) (Nat.le_refl _) c
  refine ⟨hb.os, hb.tape, hb.output, hb.size, fun b hbs hne => ?_⟩
  rw [setRow_other _ _ _ _ (fun e => hne (by rw [e]))]
theorem sv_row19 {F : Nat → Prop} {V X : World} {g : Nat} (h : Saved F V X) (hg : V.heap.size ≤ g) (c : Array Value) : Saved F V (X.setRow g c) := by
  refine ⟨h.os, h.tape, h.output, by simpa using h.size, fun k hk hk2 => ?_⟩
  rw [setRow_other _ _ _ _ (fun e => by omega), h.block k hk hk2]
theorem keepT19 {W X : World} {g k : Nat} {c d : Array Value} {t u : TypeId} (h : W.heap[k]? = some (.cells d u)) (hg : W.heap[g]? = some (.cells c t)) (ht : t ≠ u) (gr : W.grownBy X (some g)) : X.heap[k]? = some (.cells d u) := by
  rw [gr.block k (Array.getElem?_eq_some_iff.1 h).1 (fun e => by cases e; rw [h] at hg; cases hg; exact ht rfl)]
  exact h
theorem keepN19 {W X : World} {g k : Nat} {o : Obj} (h : W.heap[k]? = some o) (hn : k ≠ g) (gr : W.grownBy X (some g)) : X.heap[k]? = some o := by
  rw [gr.block k (Array.getElem?_eq_some_iff.1 h).1 (fun e => hn (Option.some.inj e))]
  exact h
theorem ml_get {ml : List Nat} {c n : Nat} (h : ∀ s ∈ ml, s < n) (hc : c < ml.length) : ml.getD c 0 < n := by
  rw [List.getD_eq_getElem?_getD, List.getElem?_eq_getElem hc]
  exact h _ (List.getElem_mem hc)
theorem own_TT {W X : World} {B n m : Nat} {v u : Value} {xs ys : List Value} (h : W.ownsRow B 4 1 v n xs) (ho : W.ownsRow B 3 1 u m ys) (gr : W.grownBy X u.ownBlock) : X.ownsRow B 4 1 v n xs := by
  refine own_keep h fun b hb => gr.block b (h.lt b hb).2 (fun e => ?_)
  rcases h.2 with ⟨e1, _⟩ | ⟨g, cap, cur, e1, _, hg, _⟩
  · rw [e1] at hb; cases hb
  · rcases ho.2 with ⟨e2, _⟩ | ⟨g', cap', cur', e2, _, hg', _⟩
    · rw [e2] at e; cases e
    · rw [e1] at hb; rw [e2] at e
      cases hb; cases e
      rw [hg] at hg'; cases hg'
theorem own_TB {W : World} {B n m eb c k : Nat} {v z : Value} {xs ys : List Value} (h : W.ownsRow B 3 1 v n xs) (ho : W.ownsRow B 4 1 (.slice (some ⟨eb, 0, none⟩) m c) m ys) : (W.setCell ⟨eb, k, none⟩ z).ownsRow B 3 1 v n xs := by
  refine own_keep h fun b hb => grC19.block b (h.lt b hb).2 (fun e => ?_)
  rcases h.2 with ⟨e1, _⟩ | ⟨g, cap, cur, e1, _, hg, _⟩
  · rw [e1] at hb; cases hb
  · rcases ho.2 with ⟨e2, _⟩ | ⟨g', cap', cur', e2, _, hg', _⟩
    · cases e2
    · injection e2 with e3 _ _
      injection e3 with e3
      injection e3 with e3 _ _
      rw [e1] at hb; cases hb; cases e
      subst e3
      rw [hg] at hg'; cases hg'
theorem own_fillB {W : World} {B n g cap i : Nat} {p : Nat → Bool} (h : W.ownsRow B 4 1 (.slice (some ⟨g, 0, none⟩) n cap) n (boolsL n (fun j => if j < i then p j else false))) : (W.setCell ⟨g, 0 + i, none⟩ (.bool (p i))).ownsRow B 4 1 (.slice (some ⟨g, 0, none⟩) n cap) n (boolsL n (fun j => if j < (i + 1) then p j else false)) := by
  have h2 := own_setBl (k := i) (p i) h
  rw [boolsL_congr (g := fun j => if j < (i + 1) then p j else false) (fun j _ => ?_)] at h2
  · exact h2
  · show (if j = i then p i else if j < i then p j else false) = if j < (i + 1) then p j else false
    by_cases e : j = i
    · rw [if_pos e, if_pos (by omega), e]
    · rw [if_neg e]
      by_cases e2 : j < i
      · rw [if_pos e2, if_pos (by omega)]
      · rw [if_neg e2, if_neg (by omega)]
set_option maxRecDepth 100000 in
set_option maxHeartbeats 4000000 in
/-- played. -/
theorem lplayed (S : Sys Lg) (gl n : Nat) (sv cv : Value) (D : Sd) (m : Nat) (sc : Nat → Int) (most : Int) (x0 : Lg) (F : Nat → Prop) (U V : World) (H : ShS S D) (hUV : Below U.heap.size U V) (hR : LgR U.heap.size V F gl n x0) (hP : ShL U sv D) (hS : SliceI U cv m sc) (hn : n = D.n) (hn2 : n ≤ 1000) (hmost : most ≤ 1000) (hx0 : x0.ca.length = 0 ∧ (∀ t, x0.ak t = 0) ∧ ∀ t, x0.dn t = 0) :
    Calls Try.prog 9 #[.pointer (some ⟨gl, 0, none⟩), sv, cv, .int .i64 most] V fun e w' => ∃ pk F', e = .returned (.agg (hC pk 0 (!S.alive (S.go (scr m sc) most.toNat 0 S.en0 x0 []).2.1) (S.alive (S.go (scr m sc) most.toNat 0 S.en0 x0 []).2.1 && decide ((S.go (scr m sc) most.toNat 0 S.en0 x0 []).2.2.2 = [])) 0 (.slice none 0 0))) ∧ w'.ownsRow U.heap.size 3 1 pk (S.go (scr m sc) most.toNat 0 S.en0 x0 []).1.length (intsL (S.go (scr m sc) most.toNat 0 S.en0 x0 []).1.length (caF (S.go (scr m sc) most.toNat 0 S.en0 x0 []).1)) ∧ LgR U.heap.size w' F' gl n (S.go (scr m sc) most.toNat 0 S.en0 x0 []).2.2.1 ∧ Saved F V w' ∧ (∀ q, F' q → F q ∨ V.heap.size ≤ q) ∧ (∀ b, pk.ownBlock = some b → ¬ F' b ∧ V.heap.size ≤ b) ∧ Below U.heap.size U w' := by
  have hx1 := hx0.1
  go_enter Try.func9, Try.ntmps9
  refine wo_ 103 [(0, .pointer (some ⟨gl, 0, none⟩)), (1, sv), (2, cv), (3, .int .i64 most)] ?_
  rintro a A ⟨t0, t1, t2, t3, -⟩
  have BB := hUV
  have FR := hR
  have FXs := Saved.refl F V
  refine wp_seq ?_
  obtain ⟨g8, egg8⟩ : ∃ z_ : Nat, V.heap.size = z_ := ⟨_, rfl⟩
  refine wi_ A (h4_ t0 t1 t2 t3) (rs_ 0 (fun a ee => ?_))
  refine stepV rfl rfl (execAlH rfl) ⟨.pointer (some ⟨g8, 0, none⟩), ⟨_, rfl, by subst egg8; rfl⟩, fun X0 hX => ?_⟩
  have bQ : Below V.heap.size V X0 := by subst hX egg8; exact (belNew V _)
  have Fg8 : (X0.heap[g8]? = some (.cells (hC (.slice none 0 0) 0 false false 0 (.slice none 0 0)) 29)) := by subst hX egg8; exact heapNew V _
  have Fvg8 : (V.heap.size ≤ g8) := by subst hX egg8; exact FXs.size
  replace FR := (FR.on bQ)
  replace FXs := (FXs.below bQ FXs.size)
  replace BB := BB.trans (bQ.mono BB.size)
  clear bQ hX egg8 ee a
  refine rf_ [(8, .pointer (some ⟨g8, 0, none⟩))] (h4_ t0 t1 t2 t3) ?_
  rintro a A ⟨t8, -⟩ ⟨t0, t1, t2, t3, -⟩
  refine wp_seq ?_
  obtain ⟨g9, egg9⟩ : ∃ z_ : Nat, X0.heap.size = z_ := ⟨_, rfl⟩
  refine wi_ A (h5_ t0 t1 t2 t3 t8) (rs_ 0 (fun a ee => ?_))
  refine stepV rfl rfl (execAlH rfl) ⟨.pointer (some ⟨g9, 0, none⟩), ⟨_, rfl, by subst egg9; rfl⟩, fun X1 hX => ?_⟩
  have bQ : Below X0.heap.size X0 X1 := by subst hX egg9; exact (belNew X0 _)
  have Fg9 : (X1.heap[g9]? = some (.cells (hC (.slice none 0 0) 0 false false 0 (.slice none 0 0)) 29)) := by subst hX egg9; exact heapNew X0 _
  have Fvg9 : (V.heap.size ≤ g9) := by subst hX egg9; exact FXs.size
  have Fne : (g8 ≠ g9) := by subst hX egg9; exact Nat.ne_of_lt (Array.getElem?_eq_some_iff.1 Fg8).1
  replace FR := (FR.on bQ)
  replace FXs := (FXs.below bQ FXs.size)
  replace Fg8 := (on9 Fg8 bQ)
  replace BB := BB.trans (bQ.mono BB.size)
  clear bQ hX egg9 ee a
  refine rf_ [(9, .pointer (some ⟨g9, 0, none⟩))] (h5_ t0 t1 t2 t3 t8) ?_
  rintro a A ⟨t9, -⟩ ⟨t0, t1, t2, t3, t8, -⟩
  refine wp_seq ?_
  obtain ⟨eb, egeb⟩ : ∃ z_ : Nat, X1.heap.size = z_ := ⟨_, rfl⟩
  refine wi_ A (h6_ t0 t1 t2 t3 t8 t9) (rv_ 1 (.int .i64 ((n : Nat) : Int)) (fun a ee => execLnM (len := n) rfl (Or.inl rfl) (ee _) (hn ▸ hP.shp)) (rs_ 2 (fun a ee => ?_)))
  refine stepV rfl rfl (execMkBl rfl (ee _) (ee _) (by omega)) ⟨.slice (some ⟨eb, 0, none⟩) n n, ⟨_, rfl, by subst egeb; rfl⟩, fun X2 hX => ?_⟩
  have bQ : Below X1.heap.size X1 X2 := by subst hX egeb; exact (belNew X1 _)
  have FE : (X2.ownsRow U.heap.size 4 1 (.slice (some ⟨eb, 0, none⟩) n n) n (boolsL n (fun j => if j < 0 then decide (D.la j = 0) else false))) := by subst hX egeb; exact ownD_base (own_mkBl X1 n _ (by omega) (fun j _ => if_neg (Nat.not_lt_zero j))) (BB).size
  have Fve : (V.heap.size ≤ eb) := by subst hX egeb; exact FXs.size
  replace FR := (FR.on bQ)
  replace FXs := (FXs.below bQ FXs.size)
  replace Fg8 := (on9 Fg8 bQ)
  replace Fg9 := (on9 Fg9 bQ)
  replace BB := BB.trans (bQ.mono BB.size)
  clear bQ hX egeb ee a
  refine rf_ [(10, .slice (some ⟨eb, 0, none⟩) n n)] (h6_ t0 t1 t2 t3 t8 t9) ?_
  rintro a A ⟨t10, -⟩ ⟨t0, t1, t2, t3, t8, t9, -⟩
  have FH := Fg9
  have F8 := Fg8
  clear Fg9 Fg8
  refine wp_seq ?_
  refine wp_seq ?_
  refine wi_ A (h7_ t0 t1 t2 t3 t8 t9 t10) (rf_ [(11, .int .i64 ((0 : Nat) : Int))] (h7_ t0 t1 t2 t3 t8 t9 t10) ?_)
  rintro a A ⟨t11, -⟩ ⟨t0, t1, t2, t3, t8, t9, t10, -⟩
  have hFe : ¬ F eb := fun w => by have := hR.lt eb w; omega
  refine wp_block ?_
  refine wp_loop (fun a W => ∃ (i : Nat), i ≤ n ∧ (a.tmps.size = 103 ∧ a.defers = []) ∧ a.eval (.tmp 0) = .pointer (some ⟨gl, 0, none⟩) ∧ a.eval (.tmp 1) = sv ∧ a.eval (.tmp 2) = cv ∧ a.eval (.tmp 3) = .int .i64 most ∧ a.eval (.tmp 8) = .pointer (some ⟨g8, 0, none⟩) ∧ a.eval (.tmp 9) = .pointer (some ⟨g9, 0, none⟩) ∧ a.eval (.tmp 10) = .slice (some ⟨eb, 0, none⟩) n n ∧ a.eval (.tmp 11) = .int .i64 ((i : Nat) : Int) ∧ Below U.heap.size U W ∧ (LgR U.heap.size W F gl n x0) ∧ (Saved F V W) ∧ (W.heap[g9]? = some (.cells (hC (.slice none 0 0) 0 false false 0 (.slice none 0 0)) 29)) ∧ (W.heap[g8]? = some (.cells (hC (.slice none 0 0) 0 false false 0 (.slice none 0 0)) 29)) ∧ (W.ownsRow U.heap.size 4 1 (.slice (some ⟨eb, 0, none⟩) n n) n (boolsL n (fun j => if j < i then decide (D.la j = 0) else false)))) (fun a _ => n - (intOf (a.eval (.tmp 11))).toNat) ⟨0, Nat.zero_le _, A, t0, t1, t2, t3, t8, t9, t10, t11, BB, FR, FXs, FH, F8, FE⟩ ?_
  clear A t0 t1 t2 t3 t8 t9 t10 t11 BB FR FXs FH F8 FE a
  rintro a XL4 ⟨i, hi, A, t0, t1, t2, t3, t8, t9, t10, t11, BB, FR, FXs, FH, F8, FE⟩
  have esi := t11
  refine wp_seq ?_
  refine wp_seq ?_
  refine wi_ A (h8_ t0 t1 t2 t3 t8 t9 t10 t11) (rv_ 2 (.int .i64 ((n : Nat) : Int)) (fun a ee => execLnM (len := n) rfl (Or.inl rfl) (ee _) (hn ▸ hP.shp)) (rv_ 3 (.bool (decide (i < n))) (fun a ee => execLtW (p := i) (q := n) rfl (ee _) (ee _)) (rf_ [(22, .bool (decide (i < n)))] (h8_ t0 t1 t2 t3 t8 t9 t10 t11) ?_)))
  rintro a A ⟨t22, -⟩ ⟨t0, t1, t2, t3, t8, t9, t10, t11, -⟩
  by_cases lti : i < n
  · rw [decide_eq_true lti] at t22
    refine wp_cond_true t22 ?_
    refine wp_skip ?_
    clear t22
    refine wp_seq ?_
    refine wp_block ?_
    obtain ⟨pb, po, pc, y_, es, hpb, hyb, hpc⟩ := hP.at (show 0 < D.n by omega)
    have cP : ∀ X, Below U.heap.size U X → X.cell? ⟨pb, po + i * 4, none⟩ = some (y_ i) ∧ X.cell? ⟨pb, po + i * 4 + 1, none⟩ = some (.bool (D.th i)) ∧ X.cell? ⟨pb, po + i * 4 + 2, none⟩ = some (.int .i64 (D.la i)) ∧ X.cell? ⟨pb, po + i * 4 + 3, none⟩ = some (.bool (D.nr i)) := fun X hX => by
      rw [cell_below hX hpb, cell_below hX hpb, cell_below hX hpb, cell_below hX hpb]
      exact hpc i (by omega)
    refine wi_ A (h8_ t0 t1 t2 t3 t8 t9 t10 t11) (rv_ 4 (.pointer (some ⟨pb, po + i * 4, none⟩)) (fun a ee => execIxM (k := i) rfl ((ee _).trans es) (ee _) (show i < D.n by omega)) (rv_ 5 (.pointer (some ⟨pb, po + i * 4 + 2, none⟩)) (fun a ee => execFm2 rfl (ee _)) (rv_ 6 (.int .i64 (D.la i)) (fun a ee => execLm rfl (Or.inl rfl) (ee _) (cP XL4 BB).2.2.1) (rv_ 7 (.bool (decide (D.la i = 0))) (fun a ee => exIeql3 (p := D.la i) (q := 0) rfl (ee _) rfl) (rv_ 8 (.pointer (some ⟨eb, 0 + i, none⟩)) (fun a ee => execIxBo (k := i) rfl (ee _) (ee _) lti) (rs_ 9 (fun a ee => ?_)))))))
    obtain ⟨hc_, hf_⟩ := own_cellBl FE lti
    refine stepS rfl rfl (execSm rfl (Or.inr (Or.inl rfl)) (ee _) (ee _) (Or.inr (Or.inl ⟨_, rfl⟩)) hc_ hf_) ⟨_, ⟨_, rfl, rfl⟩, fun X6 hX => ?_⟩
    obtain ⟨BB, FR, FXs, FH, F8, FE2⟩ : Below U.heap.size U X6 ∧ (LgR U.heap.size X6 F gl n x0) ∧ (Saved F V X6) ∧ (X6.heap[g9]? = some (.cells (hC (.slice none 0 0) 0 false false 0 (.slice none 0 0)) 29)) ∧ (X6.heap[g8]? = some (.cells (hC (.slice none 0 0) 0 false false 0 (.slice none 0 0)) 29)) ∧ (X6.ownsRow U.heap.size 4 1 (.slice (some ⟨eb, 0, none⟩) n n) n (boolsL n (fun j => if j < (i + 1) then decide (D.la j = 0) else false))) := by subst hX; exact ⟨(BB).setCell (FE.lt eb rfl).1 _, (lg_gr FR (grC19 (g := eb)) (fun b e w => by cases e; have := (FR.lt _ w); exact (hFe w))), (FXs.cell _ (Or.inl Fve)), (keep_over19 FH FE (grC19 (g := eb)) (by decide)), (keep_over19 F8 FE (grC19 (g := eb)) (by decide)), (own_fillB FE)⟩
    clear FE hX ee a
    refine rf_ [] (h8_ t0 t1 t2 t3 t8 t9 t10 t11) ?_
    rintro a A - ⟨t0, t1, t2, t3, t8, t9, t10, t11, -⟩
    have FE := FE2
    clear FE2
    refine wi_ A (h8_ t0 t1 t2 t3 t8 t9 t10 t11) (rv_ 1 (.int .i64 ((i + 1 : Nat) : Int)) (fun a ee => execAd8 (p := i) (q := 1) rfl (ee _) rfl (by omega)) (rf_ [(11, .int .i64 ((i + 1 : Nat) : Int))] (h7_ t0 t1 t2 t3 t8 t9 t10) ?_))
    rintro a A ⟨t11, -⟩ ⟨t0, t1, t2, t3, t8, t9, t10, -⟩
    exact ⟨⟨i + 1, lti, A, t0, t1, t2, t3, t8, t9, t10, t11, BB, FR, FXs, FH, F8, FE⟩, by show n - (intOf (a.eval (.tmp 11))).toNat < n - (intOf (Act.eval _ (.tmp 11))).toNat; rw [t11, esi]; show n - (i + 1) < n - i; omega⟩
  rw [decide_eq_false lti] at t22
  refine wp_cond_false t22 ?_
  refine wp_exit ?_
  first | with_reducible refine exit_in ?_ | with_reducible refine exit_then (exit_in ?_) | with_reducible refine exit_then (exit_then (exit_in ?_)) | refine exit_in ?_ | refine exit_then (exit_in ?_) | refine exit_then (exit_then (exit_in ?_))
  clear t22 esi
  obtain rfl : n = i := by omega
  rw [boolsL_congr (g := S.en0) (fun j hj => by show (if j < n then decide (D.la j = 0) else false) = _; rw [if_pos hj, H.e0 j (by omega)])] at FE
  have hof0 : OffP F F V g8 g9 eb (.slice none 0 0) := ⟨fun w => by have := hR.lt g8 w; omega, fun w => by have := hR.lt g9 w; omega, hFe, fun b w => (by cases w), fun q w => Or.inl w⟩
  have FP : XL4.ownsRow U.heap.size 3 1 (.slice none 0 0) ([] : List Nat).length (intsL ([] : List Nat).length (caF [])) := World.ownsRow_nil _ _ _ _
  refine wp_block ?_
  refine wp_loop (fun a W => ∃ (pl : List Nat) (pk : Value) (en : Nat → Bool) (x : Lg) (F2 : Nat → Prop), pl.length ≤ most.toNat ∧ S.go (scr m sc) most.toNat 0 S.en0 x0 [] = S.go (scr m sc) (most.toNat - pl.length) pl.length en x pl ∧ (x.ca.length ≤ pl.length * (n + 1) + x0.ca.length ∧ (∀ t, x.ak t ≤ pl.length + x0.ak t) ∧ ∀ t, x.dn t ≤ pl.length + x0.dn t) ∧ OffP F2 F V g8 g9 eb pk ∧ (∀ b, pk.ownBlock = some b → V.heap.size ≤ b) ∧ (a.tmps.size = 103 ∧ a.defers = []) ∧ a.eval (.tmp 0) = .pointer (some ⟨gl, 0, none⟩) ∧ a.eval (.tmp 1) = sv ∧ a.eval (.tmp 2) = cv ∧ a.eval (.tmp 3) = .int .i64 most ∧ a.eval (.tmp 8) = .pointer (some ⟨g8, 0, none⟩) ∧ a.eval (.tmp 9) = .pointer (some ⟨g9, 0, none⟩) ∧ a.eval (.tmp 10) = .slice (some ⟨eb, 0, none⟩) n n ∧ Below U.heap.size U W ∧ (LgR U.heap.size W F2 gl n x) ∧ (Saved F V W) ∧ (W.heap[g9]? = some (.cells (hC pk 0 false false 0 (.slice none 0 0)) 29)) ∧ (W.heap[g8]? = some (.cells (hC (.slice none 0 0) 0 false false 0 (.slice none 0 0)) 29)) ∧ (W.ownsRow U.heap.size 4 1 (.slice (some ⟨eb, 0, none⟩) n n) n (boolsL n en)) ∧ (W.ownsRow U.heap.size 3 1 pk pl.length (intsL pl.length (caF pl)))) (fun _ W => most.toNat - npk W g9) ⟨[], .slice none 0 0, S.en0, x0, F, Nat.zero_le _, rfl, ⟨Nat.le_add_left _ _, fun t => Nat.le_add_left _ _, fun t => Nat.le_add_left _ _⟩, hof0, fun b w => (by cases w), A, t0, t1, t2, t3, t8, t9, t10, BB, FR, FXs, FH, F8, FE, FP⟩ ?_
  clear A t0 t1 t2 t3 t8 t9 t10 t11 BB FR FXs FH F8 FE FP hof0 a
  rintro a XR ⟨pl, pk, en, x, F2, hkm, hgo, ⟨hb1, hb2, hb3⟩, hof, hpv, A, t0, t1, t2, t3, t8, t9, t10, BB, FR, FXs, FH, F8, FE, FP⟩
  have enp : npk XR g9 = pl.length := npk_of FH (own_shpZ FP)
  have hpn : pl.length * (n + 1) ≤ 1000 * 1001 := Nat.mul_le_mul (by omega) (by omega)
  refine wp_block ?_
  refine wp_seq ?_
  refine wi_ A (h7_ t0 t1 t2 t3 t8 t9 t10) (rf_ [(12, .slice none 0 0)] (h7_ t0 t1 t2 t3 t8 t9 t10) ?_)
  rintro a A ⟨t12, -⟩ ⟨t0, t1, t2, t3, t8, t9, t10, -⟩
  refine wp_seq ?_
  refine wi_ A (h8_ t0 t1 t2 t3 t8 t9 t10 t12) (rf_ [(13, .bool false)] (h8_ t0 t1 t2 t3 t8 t9 t10 t12) ?_)
  rintro a A ⟨t13, -⟩ ⟨t0, t1, t2, t3, t8, t9, t10, t12, -⟩
  refine wp_seq ?_
  refine wp_seq ?_
  refine wi_ A (h9_ t0 t1 t2 t3 t8 t9 t10 t12 t13) (rf_ [(14, .int .i64 ((0 : Nat) : Int))] (h9_ t0 t1 t2 t3 t8 t9 t10 t12 t13) ?_)
  rintro a A ⟨t14, -⟩ ⟨t0, t1, t2, t3, t8, t9, t10, t12, t13, -⟩
  have FM : XR.ownsRow U.heap.size 3 1 (.slice none 0 0) (S.ask en 0 x).1.length (intsL (S.ask en 0 x).1.length (caF (S.ask en 0 x).1)) := World.ownsRow_nil _ _ _ _
  refine wp_block ?_
  refine wp_loop (fun a W => ∃ (i : Nat) (mv : Value) (F3 : (Nat → Prop)), i ≤ n ∧ (OffP F3 F V g8 g9 eb pk) ∧ (∀ b, mv.ownBlock = some b → ¬ F3 b ∧ pk.ownBlock ≠ some b) ∧ (∀ b, mv.ownBlock = some b → V.heap.size ≤ b) ∧ (a.tmps.size = 103 ∧ a.defers = []) ∧ a.eval (.tmp 0) = .pointer (some ⟨gl, 0, none⟩) ∧ a.eval (.tmp 1) = sv ∧ a.eval (.tmp 2) = cv ∧ a.eval (.tmp 3) = .int .i64 most ∧ a.eval (.tmp 8) = .pointer (some ⟨g8, 0, none⟩) ∧ a.eval (.tmp 9) = .pointer (some ⟨g9, 0, none⟩) ∧ a.eval (.tmp 10) = .slice (some ⟨eb, 0, none⟩) n n ∧ a.eval (.tmp 12) = mv ∧ a.eval (.tmp 13) = .bool (alvT en i) ∧ a.eval (.tmp 14) = .int .i64 ((i : Nat) : Int) ∧ Below U.heap.size U W ∧ (LgR U.heap.size W F3 gl n (S.ask en i x).2) ∧ (Saved F V W) ∧ (W.heap[g9]? = some (.cells (hC pk 0 false false 0 (.slice none 0 0)) 29)) ∧ (W.heap[g8]? = some (.cells (hC (.slice none 0 0) 0 false false 0 (.slice none 0 0)) 29)) ∧ (W.ownsRow U.heap.size 4 1 (.slice (some ⟨eb, 0, none⟩) n n) n (boolsL n en)) ∧ (W.ownsRow U.heap.size 3 1 pk pl.length (intsL pl.length (caF pl))) ∧ (W.ownsRow U.heap.size 3 1 mv (S.ask en i x).1.length (intsL (S.ask en i x).1.length (caF (S.ask en i x).1)))) (fun a _ => n - (intOf (a.eval (.tmp 14))).toNat) ⟨0, (.slice none 0 0), F2, Nat.zero_le _, hof, fun b w => (by cases w), fun b w => (by cases w), A, t0, t1, t2, t3, t8, t9, t10, t12, t13, t14, BB, FR, FXs, FH, F8, FE, FP, FM⟩ ?_
  clear A t0 t1 t2 t3 t8 t9 t10 t12 t13 t14 BB FR FXs FH F8 FE FP FM a
  rintro a XL10 ⟨i, mv, F3, hi, hofi, hom, hmv, A, t0, t1, t2, t3, t8, t9, t10, t12, t13, t14, BB, FR, FXs, FH, F8, FE, FP, FM⟩
  have esi := t14
  refine wp_seq ?_
  refine wp_seq ?_
  refine wi_ A (h10_ t0 t1 t2 t3 t8 t9 t10 t12 t13 t14) (rv_ 2 (.int .i64 ((n : Nat) : Int)) (fun a ee => execLnM (len := n) rfl (Or.inl rfl) (ee _) (hn ▸ hP.shp)) (rv_ 3 (.bool (decide (i < n))) (fun a ee => execLtW (p := i) (q := n) rfl (ee _) (ee _)) (rf_ [(37, .bool (decide (i < n)))] (h10_ t0 t1 t2 t3 t8 t9 t10 t12 t13 t14) ?_)))
  rintro a A ⟨t37, -⟩ ⟨t0, t1, t2, t3, t8, t9, t10, t12, t13, t14, -⟩
  by_cases lti : i < n
  · rw [decide_eq_true lti] at t37
    refine wp_cond_true t37 ?_
    refine wp_skip ?_
    clear t37
    refine wp_seq ?_
    refine wp_block ?_
    obtain ⟨pb, po, pc, y_, es, hpb, hyb, hpc⟩ := hP.at (show 0 < D.n by omega)
    have cP : ∀ X, Below U.heap.size U X → X.cell? ⟨pb, po + i * 4, none⟩ = some (y_ i) ∧ X.cell? ⟨pb, po + i * 4 + 1, none⟩ = some (.bool (D.th i)) ∧ X.cell? ⟨pb, po + i * 4 + 2, none⟩ = some (.int .i64 (D.la i)) ∧ X.cell? ⟨pb, po + i * 4 + 3, none⟩ = some (.bool (D.nr i)) := fun X hX => by
      rw [cell_below hX hpb, cell_below hX hpb, cell_below hX hpb, cell_below hX hpb]
      exact hpc i (by omega)
    obtain ⟨z1, z2, z3, z4, z5, z6⟩ := ask_bnd (en := en) (x := x) H i (by omega)
    have b1 := hb2 i
    have b0 := hx0.2.1 i
    have b2 := z2 i (Nat.le_refl _)
    have eal := alvT_succ en i
    cases hen : en i with
    | true =>
      refine wp_seq ?_
      refine wp_seq ?_
      refine wi_ A (h10_ t0 t1 t2 t3 t8 t9 t10 t12 t13 t14) (rv_ 2 (.pointer (some ⟨eb, 0 + i, none⟩)) (fun a ee => execIxBo (k := i) rfl (ee _) (ee _) lti) (rv_ 3 (.bool true) (fun a ee => execLm rfl (Or.inr (Or.inl rfl)) (ee _) ((own_cellBl FE lti).1.trans (by rw [hen]))) (rf_ [(43, .bool true)] (h10_ t0 t1 t2 t3 t8 t9 t10 t12 t13 t14) ?_)))
      rintro a A ⟨t43, -⟩ ⟨t0, t1, t2, t3, t8, t9, t10, t12, t13, t14, -⟩
      refine wp_cond_true t43 ?_
      clear t43
      refine wp_exit ?_
      repeat (first | with_reducible refine exit_then ?_ | with_reducible refine exit_past19 (by decide) ?_)
      refine exit_in ?_
      have eA : S.ask en (i + 1) x = S.ask en i x := ask_e hen
      replace t13 : a.eval (.tmp 13) = .bool (alvT en (i + 1)) := by rw [eal, hen, Bool.not_true, Bool.or_false]; exact t13
      rw [show (S.ask en i x).2 = (S.ask en (i + 1) x).2 by rw [eA]] at FR
      rw [show (S.ask en i x).1 = (S.ask en (i + 1) x).1 by rw [eA]] at FM
      have hmv3 := hmv
      have hof3 := hofi
      have hom3 := hom
      refine wi_ A (h10_ t0 t1 t2 t3 t8 t9 t10 t12 t13 t14) (rv_ 1 (.int .i64 ((i + 1 : Nat) : Int)) (fun a ee => execAd8 (p := i) (q := 1) rfl (ee _) rfl (by omega)) (rf_ [(14, .int .i64 ((i + 1 : Nat) : Int))] (h9_ t0 t1 t2 t3 t8 t9 t10 t12 t13) ?_))
      rintro a A ⟨t14, -⟩ ⟨t0, t1, t2, t3, t8, t9, t10, t12, t13, -⟩
      exact ⟨⟨i + 1, mv, F3, lti, hof3, hom3, hmv3, A, t0, t1, t2, t3, t8, t9, t10, t12, t13, t14, BB, FR, FXs, FH, F8, FE, FP, FM⟩, by show n - (intOf (a.eval (.tmp 14))).toNat < n - (intOf (Act.eval _ (.tmp 14))).toNat; rw [t14, esi]; show n - (i + 1) < n - i; omega⟩
    | false =>
      cases hnr : D.nr i with
      | true =>
        refine wp_seq ?_
        refine wp_seq ?_
        refine wi_ A (h10_ t0 t1 t2 t3 t8 t9 t10 t12 t13 t14) (rv_ 2 (.pointer (some ⟨eb, 0 + i, none⟩)) (fun a ee => execIxBo (k := i) rfl (ee _) (ee _) lti) (rv_ 3 (.bool false) (fun a ee => execLm rfl (Or.inr (Or.inl rfl)) (ee _) ((own_cellBl FE lti).1.trans (by rw [hen]))) (rf_ [(43, .bool false)] (h10_ t0 t1 t2 t3 t8 t9 t10 t12 t13 t14) ?_)))
        rintro a A ⟨t43, -⟩ ⟨t0, t1, t2, t3, t8, t9, t10, t12, t13, t14, -⟩
        refine wp_cond_false t43 ?_
        refine wp_skip ?_
        clear t43
        refine wp_seq ?_
        refine wi_ A (h10_ t0 t1 t2 t3 t8 t9 t10 t12 t13 t14) (rf_ [(13, .bool true)] (h9_ t0 t1 t2 t3 t8 t9 t10 t12 t14) ?_)
        rintro a A ⟨t13, -⟩ ⟨t0, t1, t2, t3, t8, t9, t10, t12, t14, -⟩
        refine wp_seq ?_
        refine wi_ A (h10_ t0 t1 t2 t3 t8 t9 t10 t12 t13 t14) (rv_ 2 (.pointer (some ⟨pb, po + i * 4, none⟩)) (fun a ee => execIxM (k := i) rfl ((ee _).trans es) (ee _) (show i < D.n by omega)) (rv_ 3 (.pointer (some ⟨pb, po + i * 4 + 3, none⟩)) (fun a ee => execFm3 rfl (ee _)) (rv_ 4 (.bool true) (fun a ee => execLm rfl (Or.inr (Or.inl rfl)) (ee _) ((cP XL10 BB).2.2.2.trans (by rw [hnr]))) (rf_ [(54, .bool true)] (h10_ t0 t1 t2 t3 t8 t9 t10 t12 t13 t14) ?_))))
        rintro a A ⟨t54, -⟩ ⟨t0, t1, t2, t3, t8, t9, t10, t12, t13, t14, -⟩
        refine wp_cond_true t54 ?_
        clear t54
        obtain ⟨gs, eggs⟩ : ∃ z_ : Nat, XL10.heap.size = z_ := ⟨_, rfl⟩
        refine wi_ A (h10_ t0 t1 t2 t3 t8 t9 t10 t12 t13 t14) (rs_ 2 (fun a ee => ?_))
        refine stepV rfl rfl (execBs1 rfl (ee _)) ⟨.slice (some ⟨gs, 0, none⟩) 1 1, ⟨_, rfl, by subst eggs; rfl⟩, fun X15_1 hX => ?_⟩
        have bQ : Below XL10.heap.size XL10 X15_1 := by subst hX eggs; exact (belNew XL10 _)
        have Fs : (X15_1.heap[gs]? = some (.cells #[.int .i64 ((i : Nat) : Int)] 3)) := by subst hX eggs; exact heapNew XL10 _
        replace FR := (FR.on bQ)
        replace FXs := (FXs.below bQ FXs.size)
        replace FH := (on9 FH bQ)
        replace F8 := (on9 F8 bQ)
        replace FE := (ownD_below FE bQ)
        replace FP := (ownD_below FP bQ)
        replace FM := (ownD_below FM bQ)
        replace BB := BB.trans (bQ.mono BB.size)
        clear bQ hX eggs ee a
        refine rs_ 3 (fun a ee => ?_)
        refine stepAppIP (f := caF (S.ask en i x).1) (z := ((i : Nat) : Int)) rfl rfl rfl (ee _) (ee _) FM Fs (by omega) (BB).size fun m2 X15 own' gr hpl => ⟨_, ⟨_, rfl, rfl⟩, eqw ?_⟩
        obtain ⟨BB, FR, FXs, FH, F8, FE, FP, FM2, Fom2, Fmv2⟩ : Below U.heap.size U X15 ∧ (LgR U.heap.size X15 F3 gl n (S.ask en i x).2) ∧ (Saved F V X15) ∧ (X15.heap[g9]? = some (.cells (hC pk 0 false false 0 (.slice none 0 0)) 29)) ∧ (X15.heap[g8]? = some (.cells (hC (.slice none 0 0) 0 false false 0 (.slice none 0 0)) 29)) ∧ (X15.ownsRow U.heap.size 4 1 (.slice (some ⟨eb, 0, none⟩) n n) n (boolsL n en)) ∧ (X15.ownsRow U.heap.size 3 1 pk pl.length (intsL pl.length (caF pl))) ∧ (X15.ownsRow U.heap.size 3 1 m2 ((S.ask en i x).1 ++ [i]).length (intsL ((S.ask en i x).1 ++ [i]).length (caF ((S.ask en i x).1 ++ [i])))) ∧ (∀ b, m2.ownBlock = some b → ¬ F3 b ∧ pk.ownBlock ≠ some b) ∧ (∀ b, m2.ownBlock = some b → V.heap.size ≤ b) := ⟨(BB).grown gr (BB).size (fun k_ hk => (FM.lt k_ hk).1), (lg_gr FR gr (fun b hb_ => (hom b hb_).1)), (FXs.grown gr (fun b hb_ => Or.inl (hmv b hb_))), (keep_over19 FH FM gr (by decide)), (keep_over19 F8 FM gr (by decide)), (own_TT FE FM gr), (ownW_grown FP gr (fun b hb_ e_ => (hom b e_).2 hb_)), (own_ca own'), fun b hb_ => (hpl b hb_).elim (hom b) (fun w => ⟨fun z => Nat.not_lt.2 w (FR.lt b z), fun z => Nat.not_lt.2 w (FP.lt b z).2⟩), fun b hb_ => (hpl b hb_).elim (hmv b) (fun w => Nat.le_trans FXs.size w)⟩
        clear FM Fs ee a
        refine rf_ [(12, m2)] (h9_ t0 t1 t2 t3 t8 t9 t10 t13 t14) ?_
        rintro a A ⟨t12, -⟩ ⟨t0, t1, t2, t3, t8, t9, t10, t13, t14, -⟩
        have FM := FM2
        clear FM2
        have hmv3 := Fmv2
        have eA : S.ask en (i + 1) x = ((S.ask en i x).1 ++ [i], (S.ask en i x).2) := ask_n H (by omega) hen hnr
        replace t13 : a.eval (.tmp 13) = .bool (alvT en (i + 1)) := by rw [eal, hen, Bool.not_false, Bool.or_true]; exact t13
        rw [show (S.ask en i x).2 = (S.ask en (i + 1) x).2 by rw [eA]] at FR
        rw [show ((S.ask en i x).1 ++ [i]) = (S.ask en (i + 1) x).1 by rw [eA]] at FM
        have hof3 := hofi
        have hom3 := Fom2
        refine wi_ A (h10_ t0 t1 t2 t3 t8 t9 t10 t12 t13 t14) (rv_ 1 (.int .i64 ((i + 1 : Nat) : Int)) (fun a ee => execAd8 (p := i) (q := 1) rfl (ee _) rfl (by omega)) (rf_ [(14, .int .i64 ((i + 1 : Nat) : Int))] (h9_ t0 t1 t2 t3 t8 t9 t10 t12 t13) ?_))
        rintro a A ⟨t14, -⟩ ⟨t0, t1, t2, t3, t8, t9, t10, t12, t13, -⟩
        exact ⟨⟨i + 1, m2, F3, lti, hof3, hom3, hmv3, A, t0, t1, t2, t3, t8, t9, t10, t12, t13, t14, BB, FR, FXs, FH, F8, FE, FP, FM⟩, by show n - (intOf (a.eval (.tmp 14))).toNat < n - (intOf (Act.eval _ (.tmp 14))).toNat; rw [t14, esi]; show n - (i + 1) < n - i; omega⟩
      | false =>
        cases hrd : (rdA D (S.ask en i x).2 i).1 with
        | true =>
          refine wp_seq ?_
          refine wp_seq ?_
          refine wi_ A (h10_ t0 t1 t2 t3 t8 t9 t10 t12 t13 t14) (rv_ 2 (.pointer (some ⟨eb, 0 + i, none⟩)) (fun a ee => execIxBo (k := i) rfl (ee _) (ee _) lti) (rv_ 3 (.bool false) (fun a ee => execLm rfl (Or.inr (Or.inl rfl)) (ee _) ((own_cellBl FE lti).1.trans (by rw [hen]))) (rf_ [(43, .bool false)] (h10_ t0 t1 t2 t3 t8 t9 t10 t12 t13 t14) ?_)))
          rintro a A ⟨t43, -⟩ ⟨t0, t1, t2, t3, t8, t9, t10, t12, t13, t14, -⟩
          refine wp_cond_false t43 ?_
          refine wp_skip ?_
          clear t43
          refine wp_seq ?_
          refine wi_ A (h10_ t0 t1 t2 t3 t8 t9 t10 t12 t13 t14) (rf_ [(13, .bool true)] (h9_ t0 t1 t2 t3 t8 t9 t10 t12 t14) ?_)
          rintro a A ⟨t13, -⟩ ⟨t0, t1, t2, t3, t8, t9, t10, t12, t14, -⟩
          refine wp_seq ?_
          refine wi_ A (h10_ t0 t1 t2 t3 t8 t9 t10 t12 t13 t14) (rv_ 2 (.pointer (some ⟨pb, po + i * 4, none⟩)) (fun a ee => execIxM (k := i) rfl ((ee _).trans es) (ee _) (show i < D.n by omega)) (rv_ 3 (.pointer (some ⟨pb, po + i * 4 + 3, none⟩)) (fun a ee => execFm3 rfl (ee _)) (rv_ 4 (.bool false) (fun a ee => execLm rfl (Or.inr (Or.inl rfl)) (ee _) ((cP XL10 BB).2.2.2.trans (by rw [hnr]))) (rc_ 9 (lready gl n sv D i (S.ask en i x).2 F3 U XL10 BB FR hP hn lti (by omega) (by omega) (by omega)) fun e X14 hh => ?_))))
          obtain ⟨fp7, he, ⟨hk, hs, hf⟩, hb⟩ := hh
          refine ⟨_, he, ?_⟩
          obtain ⟨BB, FXs, FH, F8, FE, FP, FM, FR7, Fof7, Fom7⟩ : Below U.heap.size U X14 ∧ (Saved F V X14) ∧ (X14.heap[g9]? = some (.cells (hC pk 0 false false 0 (.slice none 0 0)) 29)) ∧ (X14.heap[g8]? = some (.cells (hC (.slice none 0 0) 0 false false 0 (.slice none 0 0)) 29)) ∧ (X14.ownsRow U.heap.size 4 1 (.slice (some ⟨eb, 0, none⟩) n n) n (boolsL n en)) ∧ (X14.ownsRow U.heap.size 3 1 pk pl.length (intsL pl.length (caF pl))) ∧ (X14.ownsRow U.heap.size 3 1 mv (S.ask en i x).1.length (intsL (S.ask en i x).1.length (caF (S.ask en i x).1))) ∧ (LgR U.heap.size X14 fp7 gl n (rdA D (S.ask en i x).2 i).2) ∧ (OffP fp7 F V g8 g9 eb pk) ∧ (∀ b, mv.ownBlock = some b → ¬ fp7 b ∧ pk.ownBlock ≠ some b) := ⟨hb, (sv_then3 FXs hs hofi.sub), (bk_sv19 FH hs hofi.o9), (bk_sv19 F8 hs hofi.o8), (own_sv19 FE hs (fun g_ hg_ => by cases hg_; exact hofi.oe)), (own_sv19 FP hs hofi.op), (own_sv19 FM hs (fun g_ hg_ => (hom g_ hg_).1)), hk, hofi.next hf (Array.getElem?_eq_some_iff.1 F8).1 (Array.getElem?_eq_some_iff.1 FH).1 (FE.lt eb rfl).2 (fun b hb_ => (FP.lt b hb_).2) FXs.size, fun b hb_ => ⟨fun w => (hf b w).elim (hom b hb_).1 (fun w => Nat.not_lt.2 w (FM.lt b hb_).2), (hom b hb_).2⟩⟩
          clear FR
          refine rf_ [(54, .bool (rdA D (S.ask en i x).2 i).1)] (h10_ t0 t1 t2 t3 t8 t9 t10 t12 t13 t14) ?_
          rintro a A ⟨t54, -⟩ ⟨t0, t1, t2, t3, t8, t9, t10, t12, t13, t14, -⟩
          have FR := FR7
          clear FR7
          rw [hrd] at t54
          have hom := Fom7
          refine wp_cond_true t54 ?_
          clear t54
          obtain ⟨gs, eggs⟩ : ∃ z_ : Nat, X14.heap.size = z_ := ⟨_, rfl⟩
          refine wi_ A (h10_ t0 t1 t2 t3 t8 t9 t10 t12 t13 t14) (rs_ 2 (fun a ee => ?_))
          refine stepV rfl rfl (execBs1 rfl (ee _)) ⟨.slice (some ⟨gs, 0, none⟩) 1 1, ⟨_, rfl, by subst eggs; rfl⟩, fun X15_1 hX => ?_⟩
          have bQ : Below X14.heap.size X14 X15_1 := by subst hX eggs; exact (belNew X14 _)
          have Fs : (X15_1.heap[gs]? = some (.cells #[.int .i64 ((i : Nat) : Int)] 3)) := by subst hX eggs; exact heapNew X14 _
          replace FXs := (FXs.below bQ FXs.size)
          replace FH := (on9 FH bQ)
          replace F8 := (on9 F8 bQ)
          replace FE := (ownD_below FE bQ)
          replace FP := (ownD_below FP bQ)
          replace FM := (ownD_below FM bQ)
          replace FR := (FR.on bQ)
          replace BB := BB.trans (bQ.mono BB.size)
          clear bQ hX eggs ee a
          refine rs_ 3 (fun a ee => ?_)
          refine stepAppIP (f := caF (S.ask en i x).1) (z := ((i : Nat) : Int)) rfl rfl rfl (ee _) (ee _) FM Fs (by omega) (BB).size fun m2 X15 own' gr hpl => ⟨_, ⟨_, rfl, rfl⟩, eqw ?_⟩
          obtain ⟨BB, FXs, FH, F8, FE, FP, FR, FM2, Fom2, Fmv2⟩ : Below U.heap.size U X15 ∧ (Saved F V X15) ∧ (X15.heap[g9]? = some (.cells (hC pk 0 false false 0 (.slice none 0 0)) 29)) ∧ (X15.heap[g8]? = some (.cells (hC (.slice none 0 0) 0 false false 0 (.slice none 0 0)) 29)) ∧ (X15.ownsRow U.heap.size 4 1 (.slice (some ⟨eb, 0, none⟩) n n) n (boolsL n en)) ∧ (X15.ownsRow U.heap.size 3 1 pk pl.length (intsL pl.length (caF pl))) ∧ (LgR U.heap.size X15 fp7 gl n (rdA D (S.ask en i x).2 i).2) ∧ (X15.ownsRow U.heap.size 3 1 m2 ((S.ask en i x).1 ++ [i]).length (intsL ((S.ask en i x).1 ++ [i]).length (caF ((S.ask en i x).1 ++ [i])))) ∧ (∀ b, m2.ownBlock = some b → ¬ fp7 b ∧ pk.ownBlock ≠ some b) ∧ (∀ b, m2.ownBlock = some b → V.heap.size ≤ b) := ⟨(BB).grown gr (BB).size (fun k_ hk => (FM.lt k_ hk).1), (FXs.grown gr (fun b hb_ => Or.inl (hmv b hb_))), (keep_over19 FH FM gr (by decide)), (keep_over19 F8 FM gr (by decide)), (own_TT FE FM gr), (ownW_grown FP gr (fun b hb_ e_ => (hom b e_).2 hb_)), (lg_gr FR gr (fun b hb_ => (hom b hb_).1)), (own_ca own'), fun b hb_ => (hpl b hb_).elim (hom b) (fun w => ⟨fun z => Nat.not_lt.2 w (FR.lt b z), fun z => Nat.not_lt.2 w (FP.lt b z).2⟩), fun b hb_ => (hpl b hb_).elim (hmv b) (fun w => Nat.le_trans FXs.size w)⟩
          clear FM Fs ee a
          refine rf_ [(12, m2)] (h9_ t0 t1 t2 t3 t8 t9 t10 t13 t14) ?_
          rintro a A ⟨t12, -⟩ ⟨t0, t1, t2, t3, t8, t9, t10, t13, t14, -⟩
          have FM := FM2
          clear FM2
          have hmv3 := Fmv2
          have eA : S.ask en (i + 1) x = ((S.ask en i x).1 ++ [i], (rdA D (S.ask en i x).2 i).2) := (ask_s H (by omega) hen hnr).trans (if_pos hrd)
          replace t13 : a.eval (.tmp 13) = .bool (alvT en (i + 1)) := by rw [eal, hen, Bool.not_false, Bool.or_true]; exact t13
          rw [show (rdA D (S.ask en i x).2 i).2 = (S.ask en (i + 1) x).2 by rw [eA]] at FR
          rw [show ((S.ask en i x).1 ++ [i]) = (S.ask en (i + 1) x).1 by rw [eA]] at FM
          have hof3 := Fof7
          have hom3 := Fom2
          refine wi_ A (h10_ t0 t1 t2 t3 t8 t9 t10 t12 t13 t14) (rv_ 1 (.int .i64 ((i + 1 : Nat) : Int)) (fun a ee => execAd8 (p := i) (q := 1) rfl (ee _) rfl (by omega)) (rf_ [(14, .int .i64 ((i + 1 : Nat) : Int))] (h9_ t0 t1 t2 t3 t8 t9 t10 t12 t13) ?_))
          rintro a A ⟨t14, -⟩ ⟨t0, t1, t2, t3, t8, t9, t10, t12, t13, -⟩
          exact ⟨⟨i + 1, m2, fp7, lti, hof3, hom3, hmv3, A, t0, t1, t2, t3, t8, t9, t10, t12, t13, t14, BB, FR, FXs, FH, F8, FE, FP, FM⟩, by show n - (intOf (a.eval (.tmp 14))).toNat < n - (intOf (Act.eval _ (.tmp 14))).toNat; rw [t14, esi]; show n - (i + 1) < n - i; omega⟩
        | false =>
          refine wp_seq ?_
          refine wp_seq ?_
          refine wi_ A (h10_ t0 t1 t2 t3 t8 t9 t10 t12 t13 t14) (rv_ 2 (.pointer (some ⟨eb, 0 + i, none⟩)) (fun a ee => execIxBo (k := i) rfl (ee _) (ee _) lti) (rv_ 3 (.bool false) (fun a ee => execLm rfl (Or.inr (Or.inl rfl)) (ee _) ((own_cellBl FE lti).1.trans (by rw [hen]))) (rf_ [(43, .bool false)] (h10_ t0 t1 t2 t3 t8 t9 t10 t12 t13 t14) ?_)))
          rintro a A ⟨t43, -⟩ ⟨t0, t1, t2, t3, t8, t9, t10, t12, t13, t14, -⟩
          refine wp_cond_false t43 ?_
          refine wp_skip ?_
          clear t43
          refine wp_seq ?_
          refine wi_ A (h10_ t0 t1 t2 t3 t8 t9 t10 t12 t13 t14) (rf_ [(13, .bool true)] (h9_ t0 t1 t2 t3 t8 t9 t10 t12 t14) ?_)
          rintro a A ⟨t13, -⟩ ⟨t0, t1, t2, t3, t8, t9, t10, t12, t14, -⟩
          refine wp_seq ?_
          refine wi_ A (h10_ t0 t1 t2 t3 t8 t9 t10 t12 t13 t14) (rv_ 2 (.pointer (some ⟨pb, po + i * 4, none⟩)) (fun a ee => execIxM (k := i) rfl ((ee _).trans es) (ee _) (show i < D.n by omega)) (rv_ 3 (.pointer (some ⟨pb, po + i * 4 + 3, none⟩)) (fun a ee => execFm3 rfl (ee _)) (rv_ 4 (.bool false) (fun a ee => execLm rfl (Or.inr (Or.inl rfl)) (ee _) ((cP XL10 BB).2.2.2.trans (by rw [hnr]))) (rc_ 9 (lready gl n sv D i (S.ask en i x).2 F3 U XL10 BB FR hP hn lti (by omega) (by omega) (by omega)) fun e X14 hh => ?_))))
          obtain ⟨fp7, he, ⟨hk, hs, hf⟩, hb⟩ := hh
          refine ⟨_, he, ?_⟩
          obtain ⟨BB, FXs, FH, F8, FE, FP, FM, FR7, Fof7, Fom7⟩ : Below U.heap.size U X14 ∧ (Saved F V X14) ∧ (X14.heap[g9]? = some (.cells (hC pk 0 false false 0 (.slice none 0 0)) 29)) ∧ (X14.heap[g8]? = some (.cells (hC (.slice none 0 0) 0 false false 0 (.slice none 0 0)) 29)) ∧ (X14.ownsRow U.heap.size 4 1 (.slice (some ⟨eb, 0, none⟩) n n) n (boolsL n en)) ∧ (X14.ownsRow U.heap.size 3 1 pk pl.length (intsL pl.length (caF pl))) ∧ (X14.ownsRow U.heap.size 3 1 mv (S.ask en i x).1.length (intsL (S.ask en i x).1.length (caF (S.ask en i x).1))) ∧ (LgR U.heap.size X14 fp7 gl n (rdA D (S.ask en i x).2 i).2) ∧ (OffP fp7 F V g8 g9 eb pk) ∧ (∀ b, mv.ownBlock = some b → ¬ fp7 b ∧ pk.ownBlock ≠ some b) := ⟨hb, (sv_then3 FXs hs hofi.sub), (bk_sv19 FH hs hofi.o9), (bk_sv19 F8 hs hofi.o8), (own_sv19 FE hs (fun g_ hg_ => by cases hg_; exact hofi.oe)), (own_sv19 FP hs hofi.op), (own_sv19 FM hs (fun g_ hg_ => (hom g_ hg_).1)), hk, hofi.next hf (Array.getElem?_eq_some_iff.1 F8).1 (Array.getElem?_eq_some_iff.1 FH).1 (FE.lt eb rfl).2 (fun b hb_ => (FP.lt b hb_).2) FXs.size, fun b hb_ => ⟨fun w => (hf b w).elim (hom b hb_).1 (fun w => Nat.not_lt.2 w (FM.lt b hb_).2), (hom b hb_).2⟩⟩
          clear FR
          refine rf_ [(54, .bool (rdA D (S.ask en i x).2 i).1)] (h10_ t0 t1 t2 t3 t8 t9 t10 t12 t13 t14) ?_
          rintro a A ⟨t54, -⟩ ⟨t0, t1, t2, t3, t8, t9, t10, t12, t13, t14, -⟩
          have FR := FR7
          clear FR7
          rw [hrd] at t54
          refine wp_cond_false t54 ?_
          refine wp_skip ?_
          clear t54
          have hmv3 := hmv
          have eA : S.ask en (i + 1) x = ((S.ask en i x).1, (rdA D (S.ask en i x).2 i).2) := (ask_s H (by omega) hen hnr).trans (if_neg (by rw [hrd]; decide))
          replace t13 : a.eval (.tmp 13) = .bool (alvT en (i + 1)) := by rw [eal, hen, Bool.not_false, Bool.or_true]; exact t13
          rw [show (rdA D (S.ask en i x).2 i).2 = (S.ask en (i + 1) x).2 by rw [eA]] at FR
          rw [show (S.ask en i x).1 = (S.ask en (i + 1) x).1 by rw [eA]] at FM
          have hof3 := Fof7
          have hom3 := Fom7
          refine wi_ A (h10_ t0 t1 t2 t3 t8 t9 t10 t12 t13 t14) (rv_ 1 (.int .i64 ((i + 1 : Nat) : Int)) (fun a ee => execAd8 (p := i) (q := 1) rfl (ee _) rfl (by omega)) (rf_ [(14, .int .i64 ((i + 1 : Nat) : Int))] (h9_ t0 t1 t2 t3 t8 t9 t10 t12 t13) ?_))
          rintro a A ⟨t14, -⟩ ⟨t0, t1, t2, t3, t8, t9, t10, t12, t13, -⟩
          exact ⟨⟨i + 1, mv, fp7, lti, hof3, hom3, hmv3, A, t0, t1, t2, t3, t8, t9, t10, t12, t13, t14, BB, FR, FXs, FH, F8, FE, FP, FM⟩, by show n - (intOf (a.eval (.tmp 14))).toNat < n - (intOf (Act.eval _ (.tmp 14))).toNat; rw [t14, esi]; show n - (i + 1) < n - i; omega⟩
  rw [decide_eq_false lti] at t37
  refine wp_cond_false t37 ?_
  refine wp_exit ?_
  first | with_reducible refine exit_in ?_ | with_reducible refine exit_then (exit_in ?_) | with_reducible refine exit_then (exit_then (exit_in ?_)) | refine exit_in ?_ | refine exit_then (exit_in ?_) | refine exit_then (exit_then (exit_in ?_))
  clear t37 esi
  obtain rfl : n = i := by omega
  obtain ⟨z1, z2, z3, z4, z5, z6⟩ := ask_bnd (en := en) (x := x) H n (by omega)
  obtain ⟨ml, y, hask⟩ : ∃ ml y, S.ask en n x = (ml, y) := ⟨_, _, rfl⟩
  have haskS : S.ask en S.n x = (ml, y) := by rw [H.n, ← hn]; exact hask
  rw [hask] at FR FM z1 z2 z3 z4 z5 z6
  replace z1 : y.ca.length ≤ x.ca.length + n := z1
  replace z3 : ∀ s, y.ak s ≤ x.ak s + 1 := z3
  replace z4 : y.dn = x.dn := z4
  replace z5 : ml.length ≤ n := z5
  replace z6 : ∀ s ∈ ml, s < n := z6
  by_cases hml : ml = []
  · have hm0 : ml.length = 0 := by rw [hml]; rfl
    cases hlv : alvT en n with
    | true =>
      have hal : S.alive en = true := by rw [← hlv]; unfold Sys.alive alvT; rw [H.n, ← hn]
      rw [hlv] at t13
      refine wp_seq ?_
      refine wp_seq ?_
      refine wi_ A (h9_ t0 t1 t2 t3 t8 t9 t10 t12 t13) (rv_ 1 (.int .i64 ((ml.length : Nat) : Int)) (fun a ee => execLenI (len := ml.length) rfl (ee _) (own_shpZ FM)) (rv_ 2 (.bool true) (fun a ee => execDec (exIeql3 (p := ((ml.length : Nat) : Int)) (q := 0) rfl (ee _) rfl) (decide_eq_true (by omega))) (rf_ [(68, .bool true)] (h9_ t0 t1 t2 t3 t8 t9 t10 t12 t13) ?_)))
      rintro a A ⟨t68, -⟩ ⟨t0, t1, t2, t3, t8, t9, t10, t12, t13, -⟩
      refine wp_cond_true t68 ?_
      clear t68
      refine wp_seq ?_
      refine wi_ A (h9_ t0 t1 t2 t3 t8 t9 t10 t12 t13) (rv_ 1 (.bool false) (fun a ee => execNot8 (b := true) rfl (ee _)) (rv_ 2 (.pointer (some ⟨g9, 2, none⟩)) (fun a ee => execFh2 rfl (ee _)) (rs_ 3 (fun a ee => ?_))))
      refine stepS rfl rfl (execSm rfl (Or.inr (Or.inl rfl)) (ee _) (ee _) (Or.inr (Or.inl ⟨_, rfl⟩)) (hC_at FH).2.2.1 (frozen4 FH)) ⟨_, ⟨_, rfl, rfl⟩, fun X17 hX => ?_⟩
      obtain ⟨BB, FR, FXs, F8, FE, FP, FM, FH2⟩ : Below U.heap.size U X17 ∧ (LgR U.heap.size X17 F3 gl n y) ∧ (Saved F V X17) ∧ (X17.heap[g8]? = some (.cells (hC (.slice none 0 0) 0 false false 0 (.slice none 0 0)) 29)) ∧ (X17.ownsRow U.heap.size 4 1 (.slice (some ⟨eb, 0, none⟩) n n) n (boolsL n en)) ∧ (X17.ownsRow U.heap.size 3 1 pk pl.length (intsL pl.length (caF pl))) ∧ (X17.ownsRow U.heap.size 3 1 mv ml.length (intsL ml.length (caF ml))) ∧ (X17.heap[g9]? = some (.cells (hC pk 0 false false 0 (.slice none 0 0)) 29)) := by subst hX; exact ⟨(BB).setCell (p := ⟨g9, 2, none⟩) (Nat.le_trans hUV.size Fvg9) _, (lg_gr FR (grC19 (g := g9)) (fun b e w => by cases e; exact hofi.o9 w)), (FXs.cell _ (Or.inl Fvg9)), (keepN19 F8 Fne (grC19 (g := g9))), (ownG_T FE FH (by decide) (grC19 (g := g9))), (ownG_T FP FH (by decide) (grC19 (g := g9))), (ownG_T FM FH (by decide) (grC19 (g := g9))), hC_s2 FH⟩
      clear FH hX ee a
      refine rf_ [] (h9_ t0 t1 t2 t3 t8 t9 t10 t12 t13) ?_
      rintro a A - ⟨t0, t1, t2, t3, t8, t9, t10, t12, t13, -⟩
      refine wp_seq ?_
      refine wi_ A (h9_ t0 t1 t2 t3 t8 t9 t10 t12 t13) (rv_ 3 (.int .i64 ((ml.length : Nat) : Int)) (fun a ee => execLenI (len := ml.length) rfl (ee _) (own_shpZ FM)) (rv_ 4 (.bool true) (fun a ee => execDec (exIeql3 (p := ((ml.length : Nat) : Int)) (q := 0) rfl (ee _) rfl) (decide_eq_true (by omega))) (rv_ 6 (.pointer (some ⟨g9, 3, none⟩)) (fun a ee => execFh3 rfl (ee _)) (rs_ 7 (fun a ee => ?_)))))
      refine stepS rfl rfl (execSm rfl (Or.inr (Or.inl rfl)) (ee _) (ee _) (Or.inr (Or.inl ⟨_, rfl⟩)) (hC_at FH2).2.2.2.1 (frozen4 FH2)) ⟨_, ⟨_, rfl, rfl⟩, fun X18 hX => ?_⟩
      obtain ⟨BB, FR, FXs, F8, FE, FP, FM, FH3⟩ : Below U.heap.size U X18 ∧ (LgR U.heap.size X18 F3 gl n y) ∧ (Saved F V X18) ∧ (X18.heap[g8]? = some (.cells (hC (.slice none 0 0) 0 false false 0 (.slice none 0 0)) 29)) ∧ (X18.ownsRow U.heap.size 4 1 (.slice (some ⟨eb, 0, none⟩) n n) n (boolsL n en)) ∧ (X18.ownsRow U.heap.size 3 1 pk pl.length (intsL pl.length (caF pl))) ∧ (X18.ownsRow U.heap.size 3 1 mv ml.length (intsL ml.length (caF ml))) ∧ (X18.heap[g9]? = some (.cells (hC pk 0 false true 0 (.slice none 0 0)) 29)) := by subst hX; exact ⟨(BB).setCell (p := ⟨g9, 3, none⟩) (Nat.le_trans hUV.size Fvg9) _, (lg_gr FR (grC19 (g := g9)) (fun b e w => by cases e; exact hofi.o9 w)), (FXs.cell _ (Or.inl Fvg9)), (keepN19 F8 Fne (grC19 (g := g9))), (ownG_T FE FH2 (by decide) (grC19 (g := g9))), (ownG_T FP FH2 (by decide) (grC19 (g := g9))), (ownG_T FM FH2 (by decide) (grC19 (g := g9))), hC_s3 FH2⟩
      clear FH2 hX ee a
      refine rf_ [] (h9_ t0 t1 t2 t3 t8 t9 t10 t12 t13) ?_
      rintro a A - ⟨t0, t1, t2, t3, t8, t9, t10, t12, t13, -⟩
      refine wp_seq ?_
      refine wi_ A (h9_ t0 t1 t2 t3 t8 t9 t10 t12 t13) (rv_ 0 (.agg (hC pk 0 false true 0 (.slice none 0 0))) (fun a ee => execLdHw rfl (ee _) FH3) (rs_ 1 (fun a ee => ?_)))
      refine stepS rfl rfl (execStH rfl (ee _) (ee _) F8 (sl3 (own_shpZ FP)) ⟨_, _, _, rfl⟩) ⟨_, ⟨_, rfl, rfl⟩, fun X19 hX => ?_⟩
      obtain ⟨BB, FR, FXs, FE, FP, FM, FH3, F9⟩ : Below U.heap.size U X19 ∧ (LgR U.heap.size X19 F3 gl n y) ∧ (Saved F V X19) ∧ (X19.ownsRow U.heap.size 4 1 (.slice (some ⟨eb, 0, none⟩) n n) n (boolsL n en)) ∧ (X19.ownsRow U.heap.size 3 1 pk pl.length (intsL pl.length (caF pl))) ∧ (X19.ownsRow U.heap.size 3 1 mv ml.length (intsL ml.length (caF ml))) ∧ (X19.heap[g9]? = some (.cells (hC pk 0 false true 0 (.slice none 0 0)) 29)) ∧ (X19.heap[g8]? = some (.cells (hC pk 0 false true 0 (.slice none 0 0)) 29)) := by subst hX; exact ⟨below4 BB (Nat.le_trans hUV.size Fvg8) _, (lg_gr FR (grR19 (g := g8)) (fun b e w => by cases e; exact hofi.o8 w)), (sv_row19 FXs Fvg8 _), (ownG_T FE F8 (by decide) (grR19 (g := g8))), (ownG_T FP F8 (by decide) (grR19 (g := g8))), (ownG_T FM F8 (by decide) (grR19 (g := g8))), (keepN19 FH3 (Ne.symm Fne) (grR19 (g := g8))), setRow_heap _ _ _ _ _ _ F8⟩
      clear F8 hX ee a
      refine rf_ [] (h1_ t8) ?_
      rintro a A - ⟨t8, -⟩
      have hge := go_end (sc := scr m sc) (mo := most.toNat) (pl := pl) haskS (Or.inl hml)
      rw [← hgo] at hge
      refine wp_ret ?_
      repeat (first | with_reducible refine ret_in ?_ | with_reducible refine ret_then ?_)
      refine bodyPost_ret (results_cell_row Try.results9 _ _ g8 29 _ (0, 0) _ t8 F9 Try.underlying29 rfl (sizeHw _ _ _ _ _ _)) A.2 ⟨pk, F3, ?_, ?_, ?_, FXs, hofi.sub, fun b hb => ⟨hofi.op b hb, hpv b hb⟩, BB⟩
      · rw [hge]
        show Ending.returned (.agg (hC pk 0 false true 0 (.slice none 0 0))) = .returned (.agg (hC pk 0 (!S.alive en) (S.alive en && decide (ml = [])) 0 (.slice none 0 0)))
        rw [hal, decide_eq_true hml]
        rfl
      · rw [hge]; exact FP
      · rw [hge]; exact FR
    | false =>
      have hal : S.alive en = false := by rw [← hlv]; unfold Sys.alive alvT; rw [H.n, ← hn]
      rw [hlv] at t13
      refine wp_seq ?_
      refine wp_seq ?_
      refine wi_ A (h9_ t0 t1 t2 t3 t8 t9 t10 t12 t13) (rv_ 1 (.int .i64 ((ml.length : Nat) : Int)) (fun a ee => execLenI (len := ml.length) rfl (ee _) (own_shpZ FM)) (rv_ 2 (.bool true) (fun a ee => execDec (exIeql3 (p := ((ml.length : Nat) : Int)) (q := 0) rfl (ee _) rfl) (decide_eq_true (by omega))) (rf_ [(68, .bool true)] (h9_ t0 t1 t2 t3 t8 t9 t10 t12 t13) ?_)))
      rintro a A ⟨t68, -⟩ ⟨t0, t1, t2, t3, t8, t9, t10, t12, t13, -⟩
      refine wp_cond_true t68 ?_
      clear t68
      refine wp_seq ?_
      refine wi_ A (h9_ t0 t1 t2 t3 t8 t9 t10 t12 t13) (rv_ 1 (.bool true) (fun a ee => execNot8 (b := false) rfl (ee _)) (rv_ 2 (.pointer (some ⟨g9, 2, none⟩)) (fun a ee => execFh2 rfl (ee _)) (rs_ 3 (fun a ee => ?_))))
      refine stepS rfl rfl (execSm rfl (Or.inr (Or.inl rfl)) (ee _) (ee _) (Or.inr (Or.inl ⟨_, rfl⟩)) (hC_at FH).2.2.1 (frozen4 FH)) ⟨_, ⟨_, rfl, rfl⟩, fun X17 hX => ?_⟩
      obtain ⟨BB, FR, FXs, F8, FE, FP, FM, FH2⟩ : Below U.heap.size U X17 ∧ (LgR U.heap.size X17 F3 gl n y) ∧ (Saved F V X17) ∧ (X17.heap[g8]? = some (.cells (hC (.slice none 0 0) 0 false false 0 (.slice none 0 0)) 29)) ∧ (X17.ownsRow U.heap.size 4 1 (.slice (some ⟨eb, 0, none⟩) n n) n (boolsL n en)) ∧ (X17.ownsRow U.heap.size 3 1 pk pl.length (intsL pl.length (caF pl))) ∧ (X17.ownsRow U.heap.size 3 1 mv ml.length (intsL ml.length (caF ml))) ∧ (X17.heap[g9]? = some (.cells (hC pk 0 true false 0 (.slice none 0 0)) 29)) := by subst hX; exact ⟨(BB).setCell (p := ⟨g9, 2, none⟩) (Nat.le_trans hUV.size Fvg9) _, (lg_gr FR (grC19 (g := g9)) (fun b e w => by cases e; exact hofi.o9 w)), (FXs.cell _ (Or.inl Fvg9)), (keepN19 F8 Fne (grC19 (g := g9))), (ownG_T FE FH (by decide) (grC19 (g := g9))), (ownG_T FP FH (by decide) (grC19 (g := g9))), (ownG_T FM FH (by decide) (grC19 (g := g9))), hC_s2 FH⟩
      clear FH hX ee a
      refine rf_ [] (h9_ t0 t1 t2 t3 t8 t9 t10 t12 t13) ?_
      rintro a A - ⟨t0, t1, t2, t3, t8, t9, t10, t12, t13, -⟩
      refine wp_seq ?_
      refine wi_ A (h9_ t0 t1 t2 t3 t8 t9 t10 t12 t13) (rv_ 6 (.pointer (some ⟨g9, 3, none⟩)) (fun a ee => execFh3 rfl (ee _)) (rs_ 7 (fun a ee => ?_)))
      refine stepS rfl rfl (execSm rfl (Or.inr (Or.inl rfl)) (ee _) (ee _) (Or.inr (Or.inl ⟨_, rfl⟩)) (hC_at FH2).2.2.2.1 (frozen4 FH2)) ⟨_, ⟨_, rfl, rfl⟩, fun X18 hX => ?_⟩
      obtain ⟨BB, FR, FXs, F8, FE, FP, FM, FH3⟩ : Below U.heap.size U X18 ∧ (LgR U.heap.size X18 F3 gl n y) ∧ (Saved F V X18) ∧ (X18.heap[g8]? = some (.cells (hC (.slice none 0 0) 0 false false 0 (.slice none 0 0)) 29)) ∧ (X18.ownsRow U.heap.size 4 1 (.slice (some ⟨eb, 0, none⟩) n n) n (boolsL n en)) ∧ (X18.ownsRow U.heap.size 3 1 pk pl.length (intsL pl.length (caF pl))) ∧ (X18.ownsRow U.heap.size 3 1 mv ml.length (intsL ml.length (caF ml))) ∧ (X18.heap[g9]? = some (.cells (hC pk 0 true false 0 (.slice none 0 0)) 29)) := by subst hX; exact ⟨(BB).setCell (p := ⟨g9, 3, none⟩) (Nat.le_trans hUV.size Fvg9) _, (lg_gr FR (grC19 (g := g9)) (fun b e w => by cases e; exact hofi.o9 w)), (FXs.cell _ (Or.inl Fvg9)), (keepN19 F8 Fne (grC19 (g := g9))), (ownG_T FE FH2 (by decide) (grC19 (g := g9))), (ownG_T FP FH2 (by decide) (grC19 (g := g9))), (ownG_T FM FH2 (by decide) (grC19 (g := g9))), hC_s3 FH2⟩
      clear FH2 hX ee a
      refine rf_ [] (h9_ t0 t1 t2 t3 t8 t9 t10 t12 t13) ?_
      rintro a A - ⟨t0, t1, t2, t3, t8, t9, t10, t12, t13, -⟩
      refine wp_seq ?_
      refine wi_ A (h9_ t0 t1 t2 t3 t8 t9 t10 t12 t13) (rv_ 0 (.agg (hC pk 0 true false 0 (.slice none 0 0))) (fun a ee => execLdHw rfl (ee _) FH3) (rs_ 1 (fun a ee => ?_)))
      refine stepS rfl rfl (execStH rfl (ee _) (ee _) F8 (sl3 (own_shpZ FP)) ⟨_, _, _, rfl⟩) ⟨_, ⟨_, rfl, rfl⟩, fun X19 hX => ?_⟩
      obtain ⟨BB, FR, FXs, FE, FP, FM, FH3, F9⟩ : Below U.heap.size U X19 ∧ (LgR U.heap.size X19 F3 gl n y) ∧ (Saved F V X19) ∧ (X19.ownsRow U.heap.size 4 1 (.slice (some ⟨eb, 0, none⟩) n n) n (boolsL n en)) ∧ (X19.ownsRow U.heap.size 3 1 pk pl.length (intsL pl.length (caF pl))) ∧ (X19.ownsRow U.heap.size 3 1 mv ml.length (intsL ml.length (caF ml))) ∧ (X19.heap[g9]? = some (.cells (hC pk 0 true false 0 (.slice none 0 0)) 29)) ∧ (X19.heap[g8]? = some (.cells (hC pk 0 true false 0 (.slice none 0 0)) 29)) := by subst hX; exact ⟨below4 BB (Nat.le_trans hUV.size Fvg8) _, (lg_gr FR (grR19 (g := g8)) (fun b e w => by cases e; exact hofi.o8 w)), (sv_row19 FXs Fvg8 _), (ownG_T FE F8 (by decide) (grR19 (g := g8))), (ownG_T FP F8 (by decide) (grR19 (g := g8))), (ownG_T FM F8 (by decide) (grR19 (g := g8))), (keepN19 FH3 (Ne.symm Fne) (grR19 (g := g8))), setRow_heap _ _ _ _ _ _ F8⟩
      clear F8 hX ee a
      refine rf_ [] (h1_ t8) ?_
      rintro a A - ⟨t8, -⟩
      have hge := go_end (sc := scr m sc) (mo := most.toNat) (pl := pl) haskS (Or.inl hml)
      rw [← hgo] at hge
      refine wp_ret ?_
      repeat (first | with_reducible refine ret_in ?_ | with_reducible refine ret_then ?_)
      refine bodyPost_ret (results_cell_row Try.results9 _ _ g8 29 _ (0, 0) _ t8 F9 Try.underlying29 rfl (sizeHw _ _ _ _ _ _)) A.2 ⟨pk, F3, ?_, ?_, ?_, FXs, hofi.sub, fun b hb => ⟨hofi.op b hb, hpv b hb⟩, BB⟩
      · rw [hge]
        show Ending.returned (.agg (hC pk 0 true false 0 (.slice none 0 0))) = .returned (.agg (hC pk 0 (!S.alive en) (S.alive en && decide (ml = [])) 0 (.slice none 0 0)))
        rw [hal, decide_eq_true hml]
        rfl
      · rw [hge]; exact FP
      · rw [hge]; exact FR
  · have hm0 : 0 < ml.length := List.length_pos_iff.2 hml
    by_cases hmo : most ≤ ((pl.length : Nat) : Int)
    · cases hlv : alvT en n with
      | true =>
        have hal : S.alive en = true := by rw [← hlv]; unfold Sys.alive alvT; rw [H.n, ← hn]
        rw [hlv] at t13
        refine wp_seq ?_
        refine wp_seq ?_
        refine wi_ A (h9_ t0 t1 t2 t3 t8 t9 t10 t12 t13) (rv_ 1 (.int .i64 ((ml.length : Nat) : Int)) (fun a ee => execLenI (len := ml.length) rfl (ee _) (own_shpZ FM)) (rv_ 2 (.bool false) (fun a ee => execDec (exIeql3 (p := ((ml.length : Nat) : Int)) (q := 0) rfl (ee _) rfl) (decide_eq_false (by omega))) (rv_ 4 (.pointer (some ⟨g9, 0, none⟩)) (fun a ee => execFh0 rfl (ee _)) (rv_ 5 (pk) (fun a ee => execLm rfl (Or.inr (Or.inr (Or.inl rfl))) (ee _) (hC_at FH).1) (rv_ 6 (.int .i64 ((pl.length : Nat) : Int)) (fun a ee => execLenI (len := pl.length) rfl (ee _) (own_shpZ FP)) (rv_ 8 (.bool true) (fun a ee => execDec (exIgeq3 (p := ((pl.length : Nat) : Int)) (q := most) rfl (ee _) (ee _)) (decide_eq_true (by omega))) (rf_ [(68, .bool true)] (h9_ t0 t1 t2 t3 t8 t9 t10 t12 t13) ?_)))))))
        rintro a A ⟨t68, -⟩ ⟨t0, t1, t2, t3, t8, t9, t10, t12, t13, -⟩
        refine wp_cond_true t68 ?_
        clear t68
        refine wp_seq ?_
        refine wi_ A (h9_ t0 t1 t2 t3 t8 t9 t10 t12 t13) (rv_ 1 (.bool false) (fun a ee => execNot8 (b := true) rfl (ee _)) (rv_ 2 (.pointer (some ⟨g9, 2, none⟩)) (fun a ee => execFh2 rfl (ee _)) (rs_ 3 (fun a ee => ?_))))
        refine stepS rfl rfl (execSm rfl (Or.inr (Or.inl rfl)) (ee _) (ee _) (Or.inr (Or.inl ⟨_, rfl⟩)) (hC_at FH).2.2.1 (frozen4 FH)) ⟨_, ⟨_, rfl, rfl⟩, fun X17 hX => ?_⟩
        obtain ⟨BB, FR, FXs, F8, FE, FP, FM, FH2⟩ : Below U.heap.size U X17 ∧ (LgR U.heap.size X17 F3 gl n y) ∧ (Saved F V X17) ∧ (X17.heap[g8]? = some (.cells (hC (.slice none 0 0) 0 false false 0 (.slice none 0 0)) 29)) ∧ (X17.ownsRow U.heap.size 4 1 (.slice (some ⟨eb, 0, none⟩) n n) n (boolsL n en)) ∧ (X17.ownsRow U.heap.size 3 1 pk pl.length (intsL pl.length (caF pl))) ∧ (X17.ownsRow U.heap.size 3 1 mv ml.length (intsL ml.length (caF ml))) ∧ (X17.heap[g9]? = some (.cells (hC pk 0 false false 0 (.slice none 0 0)) 29)) := by subst hX; exact ⟨(BB).setCell (p := ⟨g9, 2, none⟩) (Nat.le_trans hUV.size Fvg9) _, (lg_gr FR (grC19 (g := g9)) (fun b e w => by cases e; exact hofi.o9 w)), (FXs.cell _ (Or.inl Fvg9)), (keepN19 F8 Fne (grC19 (g := g9))), (ownG_T FE FH (by decide) (grC19 (g := g9))), (ownG_T FP FH (by decide) (grC19 (g := g9))), (ownG_T FM FH (by decide) (grC19 (g := g9))), hC_s2 FH⟩
        clear FH hX ee a
        refine rf_ [] (h9_ t0 t1 t2 t3 t8 t9 t10 t12 t13) ?_
        rintro a A - ⟨t0, t1, t2, t3, t8, t9, t10, t12, t13, -⟩
        refine wp_seq ?_
        refine wi_ A (h9_ t0 t1 t2 t3 t8 t9 t10 t12 t13) (rv_ 3 (.int .i64 ((ml.length : Nat) : Int)) (fun a ee => execLenI (len := ml.length) rfl (ee _) (own_shpZ FM)) (rv_ 4 (.bool false) (fun a ee => execDec (exIeql3 (p := ((ml.length : Nat) : Int)) (q := 0) rfl (ee _) rfl) (decide_eq_false (by omega))) (rv_ 6 (.pointer (some ⟨g9, 3, none⟩)) (fun a ee => execFh3 rfl (ee _)) (rs_ 7 (fun a ee => ?_)))))
        refine stepS rfl rfl (execSm rfl (Or.inr (Or.inl rfl)) (ee _) (ee _) (Or.inr (Or.inl ⟨_, rfl⟩)) (hC_at FH2).2.2.2.1 (frozen4 FH2)) ⟨_, ⟨_, rfl, rfl⟩, fun X18 hX => ?_⟩
        obtain ⟨BB, FR, FXs, F8, FE, FP, FM, FH3⟩ : Below U.heap.size U X18 ∧ (LgR U.heap.size X18 F3 gl n y) ∧ (Saved F V X18) ∧ (X18.heap[g8]? = some (.cells (hC (.slice none 0 0) 0 false false 0 (.slice none 0 0)) 29)) ∧ (X18.ownsRow U.heap.size 4 1 (.slice (some ⟨eb, 0, none⟩) n n) n (boolsL n en)) ∧ (X18.ownsRow U.heap.size 3 1 pk pl.length (intsL pl.length (caF pl))) ∧ (X18.ownsRow U.heap.size 3 1 mv ml.length (intsL ml.length (caF ml))) ∧ (X18.heap[g9]? = some (.cells (hC pk 0 false false 0 (.slice none 0 0)) 29)) := by subst hX; exact ⟨(BB).setCell (p := ⟨g9, 3, none⟩) (Nat.le_trans hUV.size Fvg9) _, (lg_gr FR (grC19 (g := g9)) (fun b e w => by cases e; exact hofi.o9 w)), (FXs.cell _ (Or.inl Fvg9)), (keepN19 F8 Fne (grC19 (g := g9))), (ownG_T FE FH2 (by decide) (grC19 (g := g9))), (ownG_T FP FH2 (by decide) (grC19 (g := g9))), (ownG_T FM FH2 (by decide) (grC19 (g := g9))), hC_s3 FH2⟩
        clear FH2 hX ee a
        refine rf_ [] (h9_ t0 t1 t2 t3 t8 t9 t10 t12 t13) ?_
        rintro a A - ⟨t0, t1, t2, t3, t8, t9, t10, t12, t13, -⟩
        refine wp_seq ?_
        refine wi_ A (h9_ t0 t1 t2 t3 t8 t9 t10 t12 t13) (rv_ 0 (.agg (hC pk 0 false false 0 (.slice none 0 0))) (fun a ee => execLdHw rfl (ee _) FH3) (rs_ 1 (fun a ee => ?_)))
        refine stepS rfl rfl (execStH rfl (ee _) (ee _) F8 (sl3 (own_shpZ FP)) ⟨_, _, _, rfl⟩) ⟨_, ⟨_, rfl, rfl⟩, fun X19 hX => ?_⟩
        obtain ⟨BB, FR, FXs, FE, FP, FM, FH3, F9⟩ : Below U.heap.size U X19 ∧ (LgR U.heap.size X19 F3 gl n y) ∧ (Saved F V X19) ∧ (X19.ownsRow U.heap.size 4 1 (.slice (some ⟨eb, 0, none⟩) n n) n (boolsL n en)) ∧ (X19.ownsRow U.heap.size 3 1 pk pl.length (intsL pl.length (caF pl))) ∧ (X19.ownsRow U.heap.size 3 1 mv ml.length (intsL ml.length (caF ml))) ∧ (X19.heap[g9]? = some (.cells (hC pk 0 false false 0 (.slice none 0 0)) 29)) ∧ (X19.heap[g8]? = some (.cells (hC pk 0 false false 0 (.slice none 0 0)) 29)) := by subst hX; exact ⟨below4 BB (Nat.le_trans hUV.size Fvg8) _, (lg_gr FR (grR19 (g := g8)) (fun b e w => by cases e; exact hofi.o8 w)), (sv_row19 FXs Fvg8 _), (ownG_T FE F8 (by decide) (grR19 (g := g8))), (ownG_T FP F8 (by decide) (grR19 (g := g8))), (ownG_T FM F8 (by decide) (grR19 (g := g8))), (keepN19 FH3 (Ne.symm Fne) (grR19 (g := g8))), setRow_heap _ _ _ _ _ _ F8⟩
        clear F8 hX ee a
        refine rf_ [] (h1_ t8) ?_
        rintro a A - ⟨t8, -⟩
        have hge := go_end (sc := scr m sc) (mo := most.toNat) (pl := pl) haskS (Or.inr (by omega))
        rw [← hgo] at hge
        refine wp_ret ?_
        repeat (first | with_reducible refine ret_in ?_ | with_reducible refine ret_then ?_)
        refine bodyPost_ret (results_cell_row Try.results9 _ _ g8 29 _ (0, 0) _ t8 F9 Try.underlying29 rfl (sizeHw _ _ _ _ _ _)) A.2 ⟨pk, F3, ?_, ?_, ?_, FXs, hofi.sub, fun b hb => ⟨hofi.op b hb, hpv b hb⟩, BB⟩
        · rw [hge]
          show Ending.returned (.agg (hC pk 0 false false 0 (.slice none 0 0))) = .returned (.agg (hC pk 0 (!S.alive en) (S.alive en && decide (ml = [])) 0 (.slice none 0 0)))
          rw [hal, decide_eq_false hml]
          rfl
        · rw [hge]; exact FP
        · rw [hge]; exact FR
      | false =>
        have hal : S.alive en = false := by rw [← hlv]; unfold Sys.alive alvT; rw [H.n, ← hn]
        rw [hlv] at t13
        refine wp_seq ?_
        refine wp_seq ?_
        refine wi_ A (h9_ t0 t1 t2 t3 t8 t9 t10 t12 t13) (rv_ 1 (.int .i64 ((ml.length : Nat) : Int)) (fun a ee => execLenI (len := ml.length) rfl (ee _) (own_shpZ FM)) (rv_ 2 (.bool false) (fun a ee => execDec (exIeql3 (p := ((ml.length : Nat) : Int)) (q := 0) rfl (ee _) rfl) (decide_eq_false (by omega))) (rv_ 4 (.pointer (some ⟨g9, 0, none⟩)) (fun a ee => execFh0 rfl (ee _)) (rv_ 5 (pk) (fun a ee => execLm rfl (Or.inr (Or.inr (Or.inl rfl))) (ee _) (hC_at FH).1) (rv_ 6 (.int .i64 ((pl.length : Nat) : Int)) (fun a ee => execLenI (len := pl.length) rfl (ee _) (own_shpZ FP)) (rv_ 8 (.bool true) (fun a ee => execDec (exIgeq3 (p := ((pl.length : Nat) : Int)) (q := most) rfl (ee _) (ee _)) (decide_eq_true (by omega))) (rf_ [(68, .bool true)] (h9_ t0 t1 t2 t3 t8 t9 t10 t12 t13) ?_)))))))
        rintro a A ⟨t68, -⟩ ⟨t0, t1, t2, t3, t8, t9, t10, t12, t13, -⟩
        refine wp_cond_true t68 ?_
        clear t68
        refine wp_seq ?_
        refine wi_ A (h9_ t0 t1 t2 t3 t8 t9 t10 t12 t13) (rv_ 1 (.bool true) (fun a ee => execNot8 (b := false) rfl (ee _)) (rv_ 2 (.pointer (some ⟨g9, 2, none⟩)) (fun a ee => execFh2 rfl (ee _)) (rs_ 3 (fun a ee => ?_))))
        refine stepS rfl rfl (execSm rfl (Or.inr (Or.inl rfl)) (ee _) (ee _) (Or.inr (Or.inl ⟨_, rfl⟩)) (hC_at FH).2.2.1 (frozen4 FH)) ⟨_, ⟨_, rfl, rfl⟩, fun X17 hX => ?_⟩
        obtain ⟨BB, FR, FXs, F8, FE, FP, FM, FH2⟩ : Below U.heap.size U X17 ∧ (LgR U.heap.size X17 F3 gl n y) ∧ (Saved F V X17) ∧ (X17.heap[g8]? = some (.cells (hC (.slice none 0 0) 0 false false 0 (.slice none 0 0)) 29)) ∧ (X17.ownsRow U.heap.size 4 1 (.slice (some ⟨eb, 0, none⟩) n n) n (boolsL n en)) ∧ (X17.ownsRow U.heap.size 3 1 pk pl.length (intsL pl.length (caF pl))) ∧ (X17.ownsRow U.heap.size 3 1 mv ml.length (intsL ml.length (caF ml))) ∧ (X17.heap[g9]? = some (.cells (hC pk 0 true false 0 (.slice none 0 0)) 29)) := by subst hX; exact ⟨(BB).setCell (p := ⟨g9, 2, none⟩) (Nat.le_trans hUV.size Fvg9) _, (lg_gr FR (grC19 (g := g9)) (fun b e w => by cases e; exact hofi.o9 w)), (FXs.cell _ (Or.inl Fvg9)), (keepN19 F8 Fne (grC19 (g := g9))), (ownG_T FE FH (by decide) (grC19 (g := g9))), (ownG_T FP FH (by decide) (grC19 (g := g9))), (ownG_T FM FH (by decide) (grC19 (g := g9))), hC_s2 FH⟩
        clear FH hX ee a
        refine rf_ [] (h9_ t0 t1 t2 t3 t8 t9 t10 t12 t13) ?_
        rintro a A - ⟨t0, t1, t2, t3, t8, t9, t10, t12, t13, -⟩
        refine wp_seq ?_
        refine wi_ A (h9_ t0 t1 t2 t3 t8 t9 t10 t12 t13) (rv_ 6 (.pointer (some ⟨g9, 3, none⟩)) (fun a ee => execFh3 rfl (ee _)) (rs_ 7 (fun a ee => ?_)))
        refine stepS rfl rfl (execSm rfl (Or.inr (Or.inl rfl)) (ee _) (ee _) (Or.inr (Or.inl ⟨_, rfl⟩)) (hC_at FH2).2.2.2.1 (frozen4 FH2)) ⟨_, ⟨_, rfl, rfl⟩, fun X18 hX => ?_⟩
        obtain ⟨BB, FR, FXs, F8, FE, FP, FM, FH3⟩ : Below U.heap.size U X18 ∧ (LgR U.heap.size X18 F3 gl n y) ∧ (Saved F V X18) ∧ (X18.heap[g8]? = some (.cells (hC (.slice none 0 0) 0 false false 0 (.slice none 0 0)) 29)) ∧ (X18.ownsRow U.heap.size 4 1 (.slice (some ⟨eb, 0, none⟩) n n) n (boolsL n en)) ∧ (X18.ownsRow U.heap.size 3 1 pk pl.length (intsL pl.length (caF pl))) ∧ (X18.ownsRow U.heap.size 3 1 mv ml.length (intsL ml.length (caF ml))) ∧ (X18.heap[g9]? = some (.cells (hC pk 0 true false 0 (.slice none 0 0)) 29)) := by subst hX; exact ⟨(BB).setCell (p := ⟨g9, 3, none⟩) (Nat.le_trans hUV.size Fvg9) _, (lg_gr FR (grC19 (g := g9)) (fun b e w => by cases e; exact hofi.o9 w)), (FXs.cell _ (Or.inl Fvg9)), (keepN19 F8 Fne (grC19 (g := g9))), (ownG_T FE FH2 (by decide) (grC19 (g := g9))), (ownG_T FP FH2 (by decide) (grC19 (g := g9))), (ownG_T FM FH2 (by decide) (grC19 (g := g9))), hC_s3 FH2⟩
        clear FH2 hX ee a
        refine rf_ [] (h9_ t0 t1 t2 t3 t8 t9 t10 t12 t13) ?_
        rintro a A - ⟨t0, t1, t2, t3, t8, t9, t10, t12, t13, -⟩
        refine wp_seq ?_
        refine wi_ A (h9_ t0 t1 t2 t3 t8 t9 t10 t12 t13) (rv_ 0 (.agg (hC pk 0 true false 0 (.slice none 0 0))) (fun a ee => execLdHw rfl (ee _) FH3) (rs_ 1 (fun a ee => ?_)))
        refine stepS rfl rfl (execStH rfl (ee _) (ee _) F8 (sl3 (own_shpZ FP)) ⟨_, _, _, rfl⟩) ⟨_, ⟨_, rfl, rfl⟩, fun X19 hX => ?_⟩
        obtain ⟨BB, FR, FXs, FE, FP, FM, FH3, F9⟩ : Below U.heap.size U X19 ∧ (LgR U.heap.size X19 F3 gl n y) ∧ (Saved F V X19) ∧ (X19.ownsRow U.heap.size 4 1 (.slice (some ⟨eb, 0, none⟩) n n) n (boolsL n en)) ∧ (X19.ownsRow U.heap.size 3 1 pk pl.length (intsL pl.length (caF pl))) ∧ (X19.ownsRow U.heap.size 3 1 mv ml.length (intsL ml.length (caF ml))) ∧ (X19.heap[g9]? = some (.cells (hC pk 0 true false 0 (.slice none 0 0)) 29)) ∧ (X19.heap[g8]? = some (.cells (hC pk 0 true false 0 (.slice none 0 0)) 29)) := by subst hX; exact ⟨below4 BB (Nat.le_trans hUV.size Fvg8) _, (lg_gr FR (grR19 (g := g8)) (fun b e w => by cases e; exact hofi.o8 w)), (sv_row19 FXs Fvg8 _), (ownG_T FE F8 (by decide) (grR19 (g := g8))), (ownG_T FP F8 (by decide) (grR19 (g := g8))), (ownG_T FM F8 (by decide) (grR19 (g := g8))), (keepN19 FH3 (Ne.symm Fne) (grR19 (g := g8))), setRow_heap _ _ _ _ _ _ F8⟩
        clear F8 hX ee a
        refine rf_ [] (h1_ t8) ?_
        rintro a A - ⟨t8, -⟩
        have hge := go_end (sc := scr m sc) (mo := most.toNat) (pl := pl) haskS (Or.inr (by omega))
        rw [← hgo] at hge
        refine wp_ret ?_
        repeat (first | with_reducible refine ret_in ?_ | with_reducible refine ret_then ?_)
        refine bodyPost_ret (results_cell_row Try.results9 _ _ g8 29 _ (0, 0) _ t8 F9 Try.underlying29 rfl (sizeHw _ _ _ _ _ _)) A.2 ⟨pk, F3, ?_, ?_, ?_, FXs, hofi.sub, fun b hb => ⟨hofi.op b hb, hpv b hb⟩, BB⟩
        · rw [hge]
          show Ending.returned (.agg (hC pk 0 true false 0 (.slice none 0 0))) = .returned (.agg (hC pk 0 (!S.alive en) (S.alive en && decide (ml = [])) 0 (.slice none 0 0)))
          rw [hal, decide_eq_false hml]
          rfl
        · rw [hge]; exact FP
        · rw [hge]; exact FR
    · refine wp_seq ?_
      refine wp_seq ?_
      refine wi_ A (h9_ t0 t1 t2 t3 t8 t9 t10 t12 t13) (rv_ 1 (.int .i64 ((ml.length : Nat) : Int)) (fun a ee => execLenI (len := ml.length) rfl (ee _) (own_shpZ FM)) (rv_ 2 (.bool false) (fun a ee => execDec (exIeql3 (p := ((ml.length : Nat) : Int)) (q := 0) rfl (ee _) rfl) (decide_eq_false (by omega))) (rv_ 4 (.pointer (some ⟨g9, 0, none⟩)) (fun a ee => execFh0 rfl (ee _)) (rv_ 5 (pk) (fun a ee => execLm rfl (Or.inr (Or.inr (Or.inl rfl))) (ee _) (hC_at FH).1) (rv_ 6 (.int .i64 ((pl.length : Nat) : Int)) (fun a ee => execLenI (len := pl.length) rfl (ee _) (own_shpZ FP)) (rv_ 8 (.bool false) (fun a ee => execDec (exIgeq3 (p := ((pl.length : Nat) : Int)) (q := most) rfl (ee _) (ee _)) (decide_eq_false (by omega))) (rf_ [(68, .bool false)] (h9_ t0 t1 t2 t3 t8 t9 t10 t12 t13) ?_)))))))
      rintro a A ⟨t68, -⟩ ⟨t0, t1, t2, t3, t8, t9, t10, t12, t13, -⟩
      refine wp_cond_false t68 ?_
      refine wp_skip ?_
      clear t68
      have hcl : (chn (scr m sc pl.length) ml.length) < ml.length := chn_lt (by omega)
      obtain ⟨t, et⟩ : ∃ t, ml.getD (chn (scr m sc pl.length) ml.length) 0 = t := ⟨_, rfl⟩
      have htn : t < n := by rw [← et]; exact ml_get z6 hcl
      obtain ⟨mb, mc, em, -, -⟩ := ownL_some9 FM (show 0 < ml.length by omega)
      subst em
      refine wp_seq ?_
      refine wi_ A (h9_ t0 t1 t2 t3 t8 t9 t10 t12 t13) (rv_ 2 (.pointer (some ⟨g9, 0, none⟩)) (fun a ee => execFh0 rfl (ee _)) (rv_ 3 (pk) (fun a ee => execLm rfl (Or.inr (Or.inr (Or.inl rfl))) (ee _) (hC_at FH).1) (rv_ 4 (.int .i64 ((pl.length : Nat) : Int)) (fun a ee => execLenI (len := pl.length) rfl (ee _) (own_shpZ FP)) (rv_ 6 (.int .i64 ((ml.length : Nat) : Int)) (fun a ee => execLenI (len := ml.length) rfl (ee _) ⟨_, _, rfl⟩) (rc_ 7 (rchosen cv m sc pl.length ml.length XL10 (hS.on BB) (by omega) (by omega)) (cb_ fun X20 bQ => ?_))))))
      replace FR := (FR.on bQ)
      replace FXs := (FXs.below bQ FXs.size)
      replace FH := (on9 FH bQ)
      replace F8 := (on9 F8 bQ)
      replace FE := (ownD_below FE bQ)
      replace FP := (ownD_below FP bQ)
      replace FM := (ownD_below FM bQ)
      replace BB := BB.trans (bQ.mono BB.size)
      clear bQ
      refine rv_ 8 (.pointer (some ⟨mb, 0 + (chn (scr m sc pl.length) ml.length), none⟩)) (fun a ee => execIdxN (k := chn (scr m sc pl.length) ml.length) rfl (ee _) (ee _) hcl) (rv_ 9 (.int .i64 ((t : Nat) : Int)) (fun a ee => execLm rfl (Or.inl rfl) (ee _) ((own_cellI FM hcl).1.trans (by rw [← et]; rfl))) (rf_ [(15, .int .i64 ((t : Nat) : Int))] (h7_ t0 t1 t2 t3 t8 t9 t10) ?_))
      rintro a A ⟨t15, -⟩ ⟨t0, t1, t2, t3, t8, t9, t10, -⟩
      clear FM
      refine wp_seq ?_
      obtain ⟨gs, eggs⟩ : ∃ z_ : Nat, X20.heap.size = z_ := ⟨_, rfl⟩
      refine wi_ A (h8_ t0 t1 t2 t3 t8 t9 t10 t15) (rv_ 0 (.pointer (some ⟨g9, 0, none⟩)) (fun a ee => execFh0 rfl (ee _)) (rv_ 1 (pk) (fun a ee => execLm rfl (Or.inr (Or.inr (Or.inl rfl))) (ee _) (hC_at FH).1) (rs_ 3 (fun a ee => ?_))))
      refine stepV rfl rfl (execBs1 rfl (ee _)) ⟨.slice (some ⟨gs, 0, none⟩) 1 1, ⟨_, rfl, by subst eggs; rfl⟩, fun X21_1 hX => ?_⟩
      have bQ : Below X20.heap.size X20 X21_1 := by subst hX eggs; exact (belNew X20 _)
      have Fs : (X21_1.heap[gs]? = some (.cells #[.int .i64 ((t : Nat) : Int)] 3)) := by subst hX eggs; exact heapNew X20 _
      replace FR := (FR.on bQ)
      replace FXs := (FXs.below bQ FXs.size)
      replace FH := (on9 FH bQ)
      replace F8 := (on9 F8 bQ)
      replace FE := (ownD_below FE bQ)
      replace FP := (ownD_below FP bQ)
      replace BB := BB.trans (bQ.mono BB.size)
      clear bQ hX eggs ee a
      refine rs_ 4 (fun a ee => ?_)
      refine stepAppIP (f := caF pl) (z := ((t : Nat) : Int)) rfl rfl rfl (ee _) (ee _) FP Fs (by omega) (BB).size fun p2 X21_2 own' gr hpl => ⟨_, ⟨_, rfl, rfl⟩, eqw ?_⟩
      obtain ⟨BB, FR, FXs, FH, F8, FE, FP2, Fop2, Fpv2⟩ : Below U.heap.size U X21_2 ∧ (LgR U.heap.size X21_2 F3 gl n y) ∧ (Saved F V X21_2) ∧ (X21_2.heap[g9]? = some (.cells (hC pk 0 false false 0 (.slice none 0 0)) 29)) ∧ (X21_2.heap[g8]? = some (.cells (hC (.slice none 0 0) 0 false false 0 (.slice none 0 0)) 29)) ∧ (X21_2.ownsRow U.heap.size 4 1 (.slice (some ⟨eb, 0, none⟩) n n) n (boolsL n en)) ∧ (X21_2.ownsRow U.heap.size 3 1 p2 (pl ++ [t]).length (intsL (pl ++ [t]).length (caF (pl ++ [t])))) ∧ (OffP F3 F V g8 g9 eb p2) ∧ (∀ b, p2.ownBlock = some b → V.heap.size ≤ b) := ⟨(BB).grown gr (BB).size (fun k_ hk => (FP.lt k_ hk).1), (lg_gr FR gr (fun b hb_ => hofi.op b hb_)), (FXs.grown gr (fun b hb_ => Or.inl (hpv b hb_))), (keep_over19 FH FP gr (by decide)), (keep_over19 F8 FP gr (by decide)), (own_TT FE FP gr), (own_ca own'), ⟨hofi.o8, hofi.o9, hofi.oe, fun b hb_ => (hpl b hb_).elim (hofi.op b) (fun w z => Nat.not_lt.2 w (FR.lt b z)), hofi.sub⟩, fun b hb_ => (hpl b hb_).elim (hpv b) (fun w => Nat.le_trans FXs.size w)⟩
      clear FP Fs ee a
      refine rv_ 5 (.pointer (some ⟨g9, 0, none⟩)) (fun a ee => execFh0 rfl (ee _)) (rs_ 6 (fun a ee => ?_))
      refine stepS rfl rfl (execSm rfl (Or.inr (Or.inr (Or.inl rfl))) (ee _) (ee _) (Or.inr (Or.inr (Or.inl (sl3 (own_shpZ FP2))))) (hC_at FH).1 (frozen4 FH)) ⟨_, ⟨_, rfl, rfl⟩, fun X21 hX => ?_⟩
      obtain ⟨BB, FR, FXs, F8, FE, FP2, FH2⟩ : Below U.heap.size U X21 ∧ (LgR U.heap.size X21 F3 gl n y) ∧ (Saved F V X21) ∧ (X21.heap[g8]? = some (.cells (hC (.slice none 0 0) 0 false false 0 (.slice none 0 0)) 29)) ∧ (X21.ownsRow U.heap.size 4 1 (.slice (some ⟨eb, 0, none⟩) n n) n (boolsL n en)) ∧ (X21.ownsRow U.heap.size 3 1 p2 (pl ++ [t]).length (intsL (pl ++ [t]).length (caF (pl ++ [t])))) ∧ (X21.heap[g9]? = some (.cells (hC p2 0 false false 0 (.slice none 0 0)) 29)) := by subst hX; exact ⟨(BB).setCell (p := ⟨g9, 0, none⟩) (Nat.le_trans hUV.size Fvg9) _, (lg_gr FR (grC19 (g := g9)) (fun b e w => by cases e; exact hofi.o9 w)), (FXs.cell _ (Or.inl Fvg9)), (keepN19 F8 Fne (grC19 (g := g9))), (ownG_T FE FH (by decide) (grC19 (g := g9))), (ownG_T FP2 FH (by decide) (grC19 (g := g9))), hC_s0 FH⟩
      clear FH hX ee a
      refine rf_ [] (h8_ t0 t1 t2 t3 t8 t9 t10 t15) ?_
      rintro a A - ⟨t0, t1, t2, t3, t8, t9, t10, t15, -⟩
      have FH := FH2
      have FP := FP2
      clear FH2 FP2
      have hx3 := hx0.2.2 t
      have hdn : y.dn t ≤ pl.length + x0.dn t := by rw [z4]; exact hb3 t
      refine wi_ A (h8_ t0 t1 t2 t3 t8 t9 t10 t15) (rc_ 5 (lstep gl n sv D t y F3 U X21 BB FR hP hn htn (by omega) (by omega) (by omega)) fun e X22_1 hh => ?_)
      obtain ⟨fp7, he, ⟨hk, hs, hf⟩, hb⟩ := hh
      refine ⟨_, he, ?_⟩
      obtain ⟨BB, FXs, F8, FE, FH, FP, FR7, Fof7⟩ : Below U.heap.size U X22_1 ∧ (Saved F V X22_1) ∧ (X22_1.heap[g8]? = some (.cells (hC (.slice none 0 0) 0 false false 0 (.slice none 0 0)) 29)) ∧ (X22_1.ownsRow U.heap.size 4 1 (.slice (some ⟨eb, 0, none⟩) n n) n (boolsL n en)) ∧ (X22_1.heap[g9]? = some (.cells (hC p2 0 false false 0 (.slice none 0 0)) 29)) ∧ (X22_1.ownsRow U.heap.size 3 1 p2 (pl ++ [t]).length (intsL (pl ++ [t]).length (caF (pl ++ [t])))) ∧ (LgR U.heap.size X22_1 fp7 gl n (stA D y t).2) ∧ (OffP fp7 F V g8 g9 eb p2) := ⟨hb, (sv_then3 FXs hs Fop2.sub), (bk_sv19 F8 hs Fop2.o8), (own_sv19 FE hs (fun g_ hg_ => by cases hg_; exact Fop2.oe)), (bk_sv19 FH hs Fop2.o9), (own_sv19 FP hs Fop2.op), hk, Fop2.next hf (Array.getElem?_eq_some_iff.1 F8).1 (Array.getElem?_eq_some_iff.1 FH).1 (FE.lt eb rfl).2 (fun b hb_ => (FP.lt b hb_).2) FXs.size⟩
      clear FR
      refine rv_ 6 (.pointer (some ⟨eb, 0 + t, none⟩)) (fun a ee => execIxBo (k := t) rfl (ee _) (ee _) htn) (rs_ 7 (fun a ee => ?_))
      obtain ⟨hc_, hf_⟩ := own_cellBl FE htn
      refine stepS rfl rfl (execSm rfl (Or.inr (Or.inl rfl)) (ee _) (ee _) (Or.inr (Or.inl ⟨_, rfl⟩)) hc_ hf_) ⟨_, ⟨_, rfl, rfl⟩, fun X22 hX => ?_⟩
      obtain ⟨BB, FXs, F8, FH, FP, FR7, FE2⟩ : Below U.heap.size U X22 ∧ (Saved F V X22) ∧ (X22.heap[g8]? = some (.cells (hC (.slice none 0 0) 0 false false 0 (.slice none 0 0)) 29)) ∧ (X22.heap[g9]? = some (.cells (hC p2 0 false false 0 (.slice none 0 0)) 29)) ∧ (X22.ownsRow U.heap.size 3 1 p2 (pl ++ [t]).length (intsL (pl ++ [t]).length (caF (pl ++ [t])))) ∧ (LgR U.heap.size X22 fp7 gl n (stA D y t).2) ∧ (X22.ownsRow U.heap.size 4 1 (.slice (some ⟨eb, 0, none⟩) n n) n (boolsL n (upf en t (stA D y t).1))) := by subst hX; exact ⟨(BB).setCell (FE.lt eb rfl).1 _, (FXs.cell _ (Or.inl Fve)), (keep_over19 F8 FE (grC19 (g := eb)) (by decide)), (keep_over19 FH FE (grC19 (g := eb)) (by decide)), (own_TB FP FE), (lg_gr FR7 (grC19 (g := eb)) (fun b e w => by cases e; exact Fof7.oe w)), (own_setBl _ FE)⟩
      clear FE hX ee a
      refine rf_ [] (h7_ t0 t1 t2 t3 t8 t9 t10) ?_
      rintro a A - ⟨t0, t1, t2, t3, t8, t9, t10, -⟩
      have hgo2 := go_on (D := D) (sc := scr m sc) (mo := most.toNat) (pl := pl) haskS hml (by omega) H.sa
      rw [et] at hgo2
      have enp2 : npk X22 g9 = (pl ++ [t]).length := npk_of FH (own_shpZ FP)
      have hl1 : (pl ++ [t]).length = pl.length + 1 := by simp
      have hc1 : (stA D y t).2.ca.length ≤ (pl ++ [t]).length * (n + 1) + x0.ca.length := by
        show (y.ca ++ [2 * t + 1]).length ≤ _
        rw [hl1, List.length_append, Nat.add_mul]
        simp only [List.length_singleton]
        omega
      have hc2 : ∀ s, (stA D y t).2.ak s ≤ (pl ++ [t]).length + x0.ak s := fun s => by
        show y.ak s ≤ _
        have := z3 s
        have := hb2 s
        omega
      have hc3 : ∀ s, (stA D y t).2.dn s ≤ (pl ++ [t]).length + x0.dn s := fun s => by
        show upf y.dn t (y.dn t + 1) s ≤ _
        have := hb3 s
        by_cases e : s = t
        · rw [e, upf_at]; omega
        · rw [upf_ne _ _ e, z4]; omega
      exact ⟨⟨pl ++ [t], p2, upf en t (stA D y t).1, (stA D y t).2, fp7, by omega, hgo.trans hgo2, ⟨hc1, hc2, hc3⟩, Fof7, Fpv2, A, t0, t1, t2, t3, t8, t9, t10, BB, FR7, FXs, FH, F8, FE2, FP⟩, by show most.toNat - npk X22 g9 < most.toNat - npk XR g9; rw [enp, enp2]; omega⟩
end Go.Proofs.Ytmllfmnpcidkbaa.Loo
