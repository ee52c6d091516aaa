import Derived.Test.YtijibdapooalcabJ9i
import Derived.Test.YtijibdapooalcabC9o
namespace Go.Proofs.Ytijibdapooalcab.Win
open Go.RowKit Gf8 Aes By8 Cel Cf
open Go.ChangeMaps Go.MapKept
/- The program's newTags. Written by tools/mkJ9j.py. -/

theorem execStU {o : Oper} {a : Act} {w : World} {x y : Operand} {ad : Addr} (ho : o.op = .store 66 x y) (hx : a.eval x = .pointer (some ad)) (hy : a.eval y = .agg #[]) : (execOp a.eval o).run Try.prog w = .ok .skip w := by
  unfold execOp
  simp only [ho, hx, hy]
  simp [go_sem]
theorem execAlU {o : Oper} {a : Act} {w : World} (ho : o.op = .alloc 66) : (execOp a.eval o).run Try.prog w = .ok (.value (.pointer (some ⟨w.heap.size, 0, none⟩))) (w.alloc (.cells #[] 66)) := by
  unfold execOp
  simp only [ho]
  simp [go_sem]
theorem onSetR {W : World} {b B n s : Nat} {S : List (Nat → Nat)} {o : Obj} {t : TypeId} {v : Value} {xs : List Value} (h : MS W b S) (own : W.ownsRow B t s v n xs) : (setBlock W b o).ownsRow B t s v n xs := by
  refine ⟨own.1, ?_⟩
  rcases own.2 with h1 | ⟨g, cap, cur, e, hB, hg, h2⟩
  · exact Or.inl h1
  · exact Or.inr ⟨g, cap, cur, e, hB, onSet h hg, h2⟩
theorem MS.over {W W' : World} {b B n s : Nat} {S : List (Nat → Nat)} {t : TypeId} {v : Value} {xs : List Value} (h : MS W b S) (own : W.ownsRow B t s v n xs) (gr : W.grownBy W' v.ownBlock) : MS W' b S := by
  obtain ⟨es, clock, q, r⟩ := h.map
  refine ⟨⟨es, clock, ?_, r⟩, h.byt, h.nod⟩
  rw [gr.block b h.lt (fun e => ?_)]
  · exact q
  · rcases own.2 with ⟨rfl, _⟩ | ⟨g, cap, cur, rfl, _, hg, _⟩
    · cases e
    · exact set_ne h hg (Option.some.inj e).symm
section
variable {S : List (Nat → Nat)} {i k : Nat} {tg q : Nat → Nat → Nat} {A : List Nat}
theorem nw_old (hQ : ∀ x, x ∈ tvs S ↔ x ∈ A ∨ x ∈ tgL i tg) (hF : ∀ x, x ∈ tgL k q ↔ x ∈ tgL i tg ∧ x ∉ A) (h : tv (tg i) 16 ∈ tvs S) : (∀ x, x ∈ tvs S ↔ x ∈ A ∨ x ∈ tgL (i + 1) tg) ∧ ∀ x, x ∈ tgL k q ↔ x ∈ tgL (i + 1) tg ∧ x ∉ A := by
  have h2 := (hQ _).1 h
  refine ⟨fun x => ?_, fun x => ?_⟩
  · rw [hQ x, tgL_succ, List.mem_append, List.mem_singleton]
    constructor
    · rintro (q1 | q1)
      · exact Or.inl q1
      · exact Or.inr (Or.inl q1)
    · rintro (q1 | q1 | rfl)
      · exact Or.inl q1
      · exact Or.inr q1
      · exact h2
  · rw [hF x, tgL_succ, List.mem_append, List.mem_singleton]
    constructor
    · rintro ⟨q1, q2⟩
      exact ⟨Or.inl q1, q2⟩
    · rintro ⟨q1 | rfl, q2⟩
      · exact ⟨q1, q2⟩
      · exact ⟨h2.resolve_left q2, q2⟩
theorem nw_new (hQ : ∀ x, x ∈ tvs S ↔ x ∈ A ∨ x ∈ tgL i tg) (hF : ∀ x, x ∈ tgL k q ↔ x ∈ tgL i tg ∧ x ∉ A) (hN : (tgL k q).Nodup) (h : tv (tg i) 16 ∉ tvs S) : (∀ x, x ∈ tvs (insM S (tg i)) ↔ x ∈ A ∨ x ∈ tgL (i + 1) tg) ∧ (∀ x, x ∈ tgL (k + 1) (catT k q fun _ => tg i) ↔ x ∈ tgL (i + 1) tg ∧ x ∉ A) ∧ (tgL (k + 1) (catT k q fun _ => tg i)).Nodup := by
  have h2 : ¬ (tv (tg i) 16 ∈ A ∨ tv (tg i) 16 ∈ tgL i tg) := fun q1 => h ((hQ _).2 q1)
  refine ⟨fun x => ?_, fun x => ?_, ?_⟩
  · rw [mem_insM, hQ x, tgL_succ, List.mem_append, List.mem_singleton, or_assoc]
  · rw [tgL_snoc, tgL_succ, List.mem_append, List.mem_append, hF x, List.mem_singleton]
    constructor
    · rintro (⟨q1, q2⟩ | rfl)
      · exact ⟨Or.inl q1, q2⟩
      · exact ⟨Or.inr rfl, fun q1 => h2 (Or.inl q1)⟩
    · rintro ⟨q1 | rfl, q2⟩
      · exact Or.inl ⟨q1, q2⟩
      · exact Or.inr rfl
  · rw [tgL_snoc]
    refine List.nodup_append.2 ⟨hN, by simp, fun a ha b hb e => ?_⟩
    rw [List.mem_singleton] at hb
    subst hb e
    exact h2 (Or.inr ((hF _).1 ha).1)
end
set_option maxRecDepth 100000 in
set_option maxHeartbeats 4000000 in
/-- The program's newTags. -/
theorem pnewTags (nw : Int) (ev : Value) (n : Nat) (nu : Nat → Int) (tw : Nat → Value) (ln : Nat → Nat) (t : Nat → Nat → Nat → Nat) (V : World) (hE : Eps V ev n nu tw ln t) (hn : n < 9223372036854775808) (hl : ∀ j, j < n → ln j ≤ 8796093022208) (v : Value) (m : Nat) (tg : Nat → Nat → Nat) (hTg : Tgs V v m tg) (hm : m * 16 ≤ 140737488351232) :
    Calls Try.prog 21 #[.agg (wC nw ev), v] V fun e w' => (∃ r k q, e = .returned r ∧ w'.ownsRow V.heap.size 36 16 r k (tgV q k) ∧ (∀ j, j < k → ∀ i, i < 16 → q j i < 256) ∧ (tgL k q).Nodup ∧ (∀ x, x ∈ tgL k q ↔ x ∈ tgL m tg ∧ x ∉ wAll (esL n nu ln t)) ∧ k ≤ m) ∧ Below V.heap.size V w' := by
  go_enter Try.func21, Try.ntmps21
  refine wo_ 36 [(0, .agg (wC nw ev)), (1, v)] ?_
  rintro a A ⟨t0, t1, -⟩
  have BW : Below V.heap.size V V := Below.refl _ _
  refine wp_seq ?_
  obtain ⟨g2, egg2⟩ : ∃ z_ : Nat, V.heap.size = z_ := ⟨_, rfl⟩
  refine wi_ A (h2_ t0 t1) (rs_ 0 (fun a ee => ?_))
  refine stepV rfl rfl (execBoxW rfl (ee _)) ⟨.pointer (some ⟨g2, 0, none⟩), ⟨_, rfl, by subst egg2; rfl⟩, fun X0 hX => ?_⟩
  have bQ : Below V.heap.size V X0 := by subst hX egg2; exact (belNew V _)
  have Fg2 : (X0.heap[g2]? = some (.cells (wC nw ev) 24)) := by subst hX egg2; exact heapNew V _
  have bX := bQ
  clear bQ hX egg2 ee a
  refine rf_ [(2, .pointer (some ⟨g2, 0, none⟩))] (h1_ t1) ?_
  rintro a A ⟨t2, -⟩ ⟨t1, -⟩
  replace hE := (hE.on bX)
  replace hTg := (hTg.on bX)
  have ZX0 := bX.size
  replace BW := BW.trans (bX.mono BW.size)
  clear bX
  have BB : Below X0.heap.size X0 X0 := Below.refl _ _
  refine wp_seq ?_
  refine wi_ A (h2_ t1 t2) (rv_ 0 (.agg (wC nw ev)) (fun a ee => execLdWn rfl (ee _) (on9 Fg2 BB)) (rc_ 1 (pheld nw ev n nu tw ln t X0 (hE.on BB) hn hl) fun e X1 hh => ?_))
  obtain ⟨⟨bm, Sc, he, hM, hge, hq⟩, hb⟩ := hh
  refine ⟨_, he, ?_⟩
  have bQ : Below X0.heap.size X0 X1 := hb
  have FM : (MS X1 bm Sc) := hM
  have FMg : (X0.heap.size ≤ bm) := Nat.le_trans (BB).size hge
  have FMp : (∀ x, x ∈ tvs Sc ↔ x ∈ wAll (esL n nu ln t)) := hq
  replace BB := BB.trans (bQ.mono BB.size)
  clear bQ
  refine rf_ [(5, .map (some bm))] (h1_ t1) ?_
  rintro a A ⟨t5, -⟩ ⟨t1, -⟩
  refine wp_seq ?_
  refine wi_ A (h2_ t1 t5) (rf_ [(6, .slice none 0 0)] (h2_ t1 t5) ?_)
  rintro a A ⟨t6, -⟩ ⟨t1, t5, -⟩
  refine wp_seq ?_
  refine wp_seq ?_
  refine wi_ A (h3_ t1 t5 t6) (rv_ 1 (.int .i64 ((m : Nat) : Int)) (fun a ee => execLenTs (len := m) rfl (ee _) hTg.shp) (rf_ [(13, v), (14, .int .i64 ((m : Nat) : Int)), (15, .int .i64 ((0 : Nat) : Int))] (h2_ t5 t6) ?_))
  rintro a A ⟨t13, t14, t15, -⟩ ⟨t5, t6, -⟩
  have FO : X1.ownsRow X0.heap.size 36 16 (.slice none 0 0) 0 (tgV (fun _ _ => 0) 0) := own_none16 _ _ _
  refine wp_block ?_
  refine wp_loop (fun a W => ∃ (i : Nat) (Sa : List (Nat → Nat)) (r6 : Value) (k : Nat) (q : Nat → Nat → Nat), i ≤ m ∧ (∀ x, x ∈ tvs Sa ↔ x ∈ wAll (esL n nu ln t) ∨ x ∈ tgL i tg) ∧ (∀ x, x ∈ tgL k q ↔ x ∈ tgL i tg ∧ x ∉ wAll (esL n nu ln t)) ∧ ((tgL k q).Nodup) ∧ (∀ j, j < k → ∀ i, i < 16 → q j i < 256) ∧ (k ≤ i) ∧ (a.tmps.size = 36 ∧ a.defers = []) ∧ a.eval (.tmp 5) = .map (some bm) ∧ a.eval (.tmp 6) = r6 ∧ a.eval (.tmp 13) = v ∧ a.eval (.tmp 14) = .int .i64 ((m : Nat) : Int) ∧ a.eval (.tmp 15) = .int .i64 ((i : Nat) : Int) ∧ Below X0.heap.size X0 W ∧ (MS W bm Sa) ∧ (W.ownsRow X0.heap.size 36 16 r6 (k) (tgV (q) (k)))) (fun a _ => m - (intOf (a.eval (.tmp 15))).toNat) ⟨0, Sc, .slice none 0 0, 0, fun _ _ => 0, Nat.zero_le _, fun x => by rw [FMp x]; simp [tgL], fun x => by simp [tgL], by simp [tgL], fun j h => absurd h (Nat.not_lt_zero j), Nat.le_refl _, A, t5, t6, t13, t14, t15, BB, FM, FO⟩ ?_
  clear A t5 t6 t13 t14 t15 BB FM FO a
  rintro a XL4 ⟨i, Sa, r6, k, q, hi, hQa, hF, hN, hB, hk, A, t5, t6, t13, t14, t15, BB, FM, FO⟩
  have esi := t15
  refine wp_seq ?_
  refine wi_ A (h5_ t5 t6 t13 t14 t15) (rv_ 0 (.bool (decide (i < m))) (fun a ee => execLtW (p := i) (q := m) rfl (ee _) (ee _)) (rf_ [(16, .bool (decide (i < m)))] (h5_ t5 t6 t13 t14 t15) ?_))
  rintro a A ⟨t16, -⟩ ⟨t5, t6, t13, t14, t15, -⟩
  refine wp_seq ?_
  by_cases lti : i < m
  · rw [decide_eq_true lti] at t16
    refine wp_cond_true t16 ?_
    refine wp_skip ?_
    clear t16
    refine wp_seq ?_
    refine wp_block ?_
    obtain ⟨tb, to_, tc, et_, htb, htc⟩ := hTg.at (by omega)
    have cT : ∀ X, Below X0.heap.size X0 X → ∀ j_, j_ < 16 → X.cell? ⟨tb, to_ + i * 16 + j_, none⟩ = some (.int .u8 ((tg i j_ : Nat) : Int)) := fun X hX j_ hj_ => by rw [cell_below hX htb]; exact htc i lti j_ hj_
    refine wp_seq ?_
    obtain ⟨g8, egg8⟩ : ∃ z_ : Nat, XL4.heap.size = z_ := ⟨_, rfl⟩
    refine wi_ A (h5_ t5 t6 t13 t14 t15) (rv_ 0 (.pointer (some ⟨tb, to_ + i * 16, none⟩)) (fun a ee => execIdxTs (k := i) rfl ((ee _).trans et_) (ee _) lti) (rv_ 1 (.agg (bA 16 (tg i))) (fun a ee => execLdT rfl (ee _) (fun j_ hj_ => cT XL4 BB j_ hj_)) (rs_ 2 (fun a ee => ?_))))
    refine stepV rfl rfl (execAl16 rfl) ⟨.pointer (some ⟨g8, 0, none⟩), ⟨_, rfl, by subst egg8; rfl⟩, fun X5_1 hX => ?_⟩
    have bQ : Below XL4.heap.size XL4 X5_1 := by subst hX egg8; exact (belNew XL4 _)
    have Fg8 : (X5_1.heap[g8]? = some (.cells (bA 16 fun _ => 0) 36)) := by subst hX egg8; exact heapNew XL4 _
    have FGt : (X0.heap.size ≤ g8) := by subst hX egg8; exact (BB).size
    have FDr : (r6.ownBlock ≠ some g8) := by subst hX egg8; exact fun q_ => Nat.lt_irrefl _ (FO.lt _ q_).2
    replace FM := (FM.on bQ)
    replace FO := (own_below FO bQ)
    replace BB := BB.trans (bQ.mono BB.size)
    clear bQ hX egg8 ee a
    refine rs_ 3 (fun a ee => ?_)
    refine stepS rfl rfl (execSt16 rfl (ee _) (ee _) Fg8) ⟨_, ⟨_, rfl, rfl⟩, fun X5 hX => ?_⟩
    obtain ⟨BB, FM, FO, Ft⟩ : Below X0.heap.size X0 X5 ∧ (MS X5 bm Sa) ∧ (X5.ownsRow X0.heap.size 36 16 r6 (k) (tgV (q) (k))) ∧ (X5.heap[g8]? = some (.cells (bA 16 (tg i)) 36)) := by subst hX; exact ⟨below4 BB FGt _, (onRowM FM Fg8), (ownE_setN FO FDr), setRow_heap _ _ _ _ _ _ Fg8⟩
    clear Fg8 hX ee a
    refine rf_ [(8, .pointer (some ⟨g8, 0, none⟩))] (h5_ t5 t6 t13 t14 t15) ?_
    rintro a A ⟨t8, -⟩ ⟨t5, t6, t13, t14, t15, -⟩
    clear FGt FDr
    refine wp_seq ?_
    by_cases hin : tv (tg i) 16 ∈ tvs Sa
    · obtain ⟨g9, egg9⟩ : ∃ z_ : Nat, X5.heap.size = z_ := ⟨_, rfl⟩
      refine wi_ A (h6_ t5 t6 t13 t14 t15 t8) (rv_ 1 (.agg (bA 16 (tg i))) (fun a ee => execLdT rfl (ee _) (fun j_ hj_ => at16 Ft hj_)) (rv_ 2 (.tuple #[.agg #[], .bool true]) (fun a ee => execLkMt rfl (ee _) (ee _) FM (hTg.byt i lti) hin) (rs_ 6 (fun a ee => ?_))))
      refine stepV rfl rfl (execAlU rfl) ⟨.pointer (some ⟨g9, 0, none⟩), ⟨_, rfl, by subst egg9; rfl⟩, fun X6_1 hX => ?_⟩
      have bQ : Below X5.heap.size X5 X6_1 := by subst hX egg9; exact (belNew X5 _)
      have Fu : (X6_1.heap[g9]? = some (.cells #[] 66)) := by subst hX egg9; exact heapNew X5 _
      have FUg : (X0.heap.size ≤ g9) := by subst hX egg9; exact (BB).size
      replace FM := (FM.on bQ)
      replace FO := (own_below FO bQ)
      replace Ft := (on9 Ft bQ)
      replace BB := BB.trans (bQ.mono BB.size)
      clear bQ hX egg9 ee a
      refine rs_ 7 (fun a ee => ?_)
      refine stepS rfl rfl (execStU rfl (ee _) (ee _)) ⟨_, ⟨_, rfl, rfl⟩, fun X6 hX => ?_⟩
      have bQ : Below X6_1.heap.size X6_1 X6 := by subst hX; exact (Below.refl _ _)
      replace FM := (FM.on bQ)
      replace FO := (own_below FO bQ)
      replace Ft := (on9 Ft bQ)
      replace Fu := (on9 Fu bQ)
      replace BB := BB.trans (bQ.mono BB.size)
      clear bQ hX ee a
      refine rf_ [(10, .bool true)] (h6_ t5 t6 t13 t14 t15 t8) ?_
      rintro a A ⟨t10, -⟩ ⟨t5, t6, t13, t14, t15, t8, -⟩
      clear Fu FUg
      refine wp_seq ?_
      refine wi_ A (h7_ t5 t6 t13 t14 t15 t8 t10) (rv_ 1 (.bool false) (fun a ee => execNot8 (b := true) rfl (ee _)) (rf_ [(26, .bool false)] (h6_ t5 t6 t13 t14 t15 t8) ?_))
      rintro a A ⟨t26, -⟩ ⟨t5, t6, t13, t14, t15, t8, -⟩
      clear t8 Ft
      refine wp_cond_false t26 ?_
      refine wp_skip ?_
      clear t26
      obtain ⟨q1, q2⟩ := nw_old hQa hF hin
      have hk2 : k ≤ i + 1 := by omega
      have hN2 := hN
      have hB2 := hB
      refine wi_ A (h5_ t5 t6 t13 t14 t15) (rv_ 0 (.int .i64 ((i + 1 : Nat) : Int)) (fun a ee => execAd8 (p := i) (q := 1) rfl (ee _) rfl (by omega)) (rf_ [(15, .int .i64 ((i + 1 : Nat) : Int))] (h4_ t5 t6 t13 t14) ?_))
      rintro a A ⟨t15, -⟩ ⟨t5, t6, t13, t14, -⟩
      exact ⟨⟨i + 1, Sa, r6, k, q, lti, q1, q2, hN2, hB2, hk2, A, t5, t6, t13, t14, t15, BB, FM, FO⟩, by show m - (intOf (a.eval (.tmp 15))).toNat < m - (intOf (Act.eval _ (.tmp 15))).toNat; rw [t15, esi]; show m - (i + 1) < m - i; omega⟩
    · obtain ⟨g9, egg9⟩ : ∃ z_ : Nat, X5.heap.size = z_ := ⟨_, rfl⟩
      refine wi_ A (h6_ t5 t6 t13 t14 t15 t8) (rv_ 1 (.agg (bA 16 (tg i))) (fun a ee => execLdT rfl (ee _) (fun j_ hj_ => at16 Ft hj_)) (rv_ 2 (.tuple #[.agg #[], .bool false]) (fun a ee => execLkMf rfl (ee _) (ee _) FM (hTg.byt i lti) hin) (rs_ 6 (fun a ee => ?_))))
      refine stepV rfl rfl (execAlU rfl) ⟨.pointer (some ⟨g9, 0, none⟩), ⟨_, rfl, by subst egg9; rfl⟩, fun X6_1 hX => ?_⟩
      have bQ : Below X5.heap.size X5 X6_1 := by subst hX egg9; exact (belNew X5 _)
      have Fu : (X6_1.heap[g9]? = some (.cells #[] 66)) := by subst hX egg9; exact heapNew X5 _
      have FUg : (X0.heap.size ≤ g9) := by subst hX egg9; exact (BB).size
      replace FM := (FM.on bQ)
      replace FO := (own_below FO bQ)
      replace Ft := (on9 Ft bQ)
      replace BB := BB.trans (bQ.mono BB.size)
      clear bQ hX egg9 ee a
      refine rs_ 7 (fun a ee => ?_)
      refine stepS rfl rfl (execStU rfl (ee _) (ee _)) ⟨_, ⟨_, rfl, rfl⟩, fun X6 hX => ?_⟩
      have bQ : Below X6_1.heap.size X6_1 X6 := by subst hX; exact (Below.refl _ _)
      replace FM := (FM.on bQ)
      replace FO := (own_below FO bQ)
      replace Ft := (on9 Ft bQ)
      replace Fu := (on9 Fu bQ)
      replace BB := BB.trans (bQ.mono BB.size)
      clear bQ hX ee a
      refine rf_ [(10, .bool false)] (h6_ t5 t6 t13 t14 t15 t8) ?_
      rintro a A ⟨t10, -⟩ ⟨t5, t6, t13, t14, t15, t8, -⟩
      clear Fu FUg
      refine wp_seq ?_
      refine wi_ A (h7_ t5 t6 t13 t14 t15 t8 t10) (rv_ 1 (.bool true) (fun a ee => execNot8 (b := false) rfl (ee _)) (rf_ [(26, .bool true)] (h6_ t5 t6 t13 t14 t15 t8) ?_))
      rintro a A ⟨t26, -⟩ ⟨t5, t6, t13, t14, t15, t8, -⟩
      refine wp_cond_true t26 ?_
      clear t26
      refine wp_seq ?_
      refine wi_ A (h6_ t5 t6 t13 t14 t15 t8) (rv_ 1 (.agg (bA 16 (tg i))) (fun a ee => execLdT rfl (ee _) (fun j_ hj_ => at16 Ft hj_)) (rv_ 2 (.agg #[]) (fun a ee => execUnit rfl) (rs_ 3 (fun a ee => ?_))))
      obtain ⟨o_, ho_, hM_⟩ := FM.put (hTg.byt i lti)
      refine stepS rfl rfl (execMU rfl (ee _) (ee _) (ee _) ho_) ⟨_, ⟨_, rfl, rfl⟩, fun X8 hX => ?_⟩
      obtain ⟨BB, FO, Ft, FMn⟩ : Below X0.heap.size X0 X8 ∧ (X8.ownsRow X0.heap.size 36 16 r6 (k) (tgV (q) (k))) ∧ (X8.heap[g8]? = some (.cells (bA 16 (tg i)) 36)) ∧ (MS X8 bm (insM Sa (tg i))) := by subst hX; exact ⟨belSet BB FMg, (onSetR FM FO), (onSet FM Ft), hM_⟩
      clear FM hX ee a
      refine rf_ [] (h6_ t5 t6 t13 t14 t15 t8) ?_
      rintro a A - ⟨t5, t6, t13, t14, t15, t8, -⟩
      obtain ⟨g32, egg32⟩ : ∃ z_ : Nat, X8.heap.size = z_ := ⟨_, rfl⟩
      refine wi_ A (h6_ t5 t6 t13 t14 t15 t8) (rv_ 1 (.agg (bA 16 (tg i))) (fun a ee => execLdT rfl (ee _) (fun j_ hj_ => at16 Ft hj_)) (rs_ 2 (fun a ee => ?_)))
      refine stepV rfl rfl (execBsT rfl (ee _)) ⟨.slice (some ⟨g32, 0, none⟩) 1 1, ⟨_, rfl, by subst egg32; rfl⟩, fun X9_1 hX => ?_⟩
      have bQ : Below X8.heap.size X8 X9_1 := by subst hX egg32; exact (belNew X8 _)
      have F32 : (Tgs X9_1 (.slice (some ⟨g32, 0, none⟩) 1 1) 1 (fun _ => (tg i))) := by subst hX egg32; exact one_tgs X8 _ (hTg.byt i lti)
      replace FO := (own_below FO bQ)
      replace Ft := (on9 Ft bQ)
      replace FMn := (FMn.on bQ)
      replace BB := BB.trans (bQ.mono BB.size)
      clear bQ hX egg32 ee a
      refine rs_ 3 (fun a ee => ?_)
      refine stepAppT (n := k) (m := 1) (t := q) (p := fun _ => tg i) rfl rfl rfl (ee _) (ee _) FO F32 (by omega) (BB).size fun r33 X9 own' gr => ⟨_, ⟨_, rfl, rfl⟩, eqw ?_⟩
      obtain ⟨BB, FMn, FO2⟩ : Below X0.heap.size X0 X9 ∧ (MS X9 bm (insM Sa (tg i))) ∧ (X9.ownsRow X0.heap.size 36 16 r33 (k + 1) (tgV (catT (k) (q) (fun _ => tg i)) (k + 1))) := ⟨(BB).grown gr (BB).size (fun k hk => (FO.lt k hk).1), (FMn).over FO gr, own'⟩
      clear FO Ft F32 ee a
      refine rf_ [(6, r33)] (h4_ t5 t13 t14 t15) ?_
      rintro a A ⟨t6, -⟩ ⟨t5, t13, t14, t15, -⟩
      obtain ⟨q1, q2, hN2⟩ := nw_new hQa hF hN hin
      have hk2 : k + 1 ≤ i + 1 := by omega
      have hB2 := cat_byt (m := 1) hB (s := fun _ => tg i) (fun _ _ => hTg.byt i lti)
      refine wi_ A (h5_ t5 t6 t13 t14 t15) (rv_ 0 (.int .i64 ((i + 1 : Nat) : Int)) (fun a ee => execAd8 (p := i) (q := 1) rfl (ee _) rfl (by omega)) (rf_ [(15, .int .i64 ((i + 1 : Nat) : Int))] (h4_ t5 t6 t13 t14) ?_))
      rintro a A ⟨t15, -⟩ ⟨t5, t6, t13, t14, -⟩
      exact ⟨⟨i + 1, insM Sa (tg i), r33, k + 1, catT k q fun _ => tg i, lti, q1, q2, hN2, hB2, hk2, A, t5, t6, t13, t14, t15, BB, FMn, FO2⟩, by show m - (intOf (a.eval (.tmp 15))).toNat < m - (intOf (Act.eval _ (.tmp 15))).toNat; rw [t15, esi]; show m - (i + 1) < m - i; omega⟩
  · rw [decide_eq_false lti] at t16
    refine wp_cond_false t16 ?_
    refine wp_exit ?_
    first | with_reducible refine exit_in ?_ | with_reducible refine exit_then (exit_in ?_) | with_reducible refine exit_then (exit_then (exit_in ?_)) | refine exit_in ?_ | refine exit_then (exit_in ?_) | refine exit_then (exit_then (exit_in ?_))
    clear t16 esi
    have ein : i = m := by omega
    rw [ein] at hF
    have BW2 := BW.trans (BB.mono BW.size)
    refine wp_seq ?_
    refine wi_ A (h5_ t5 t6 t13 t14 t15) (rg_ [(4, r6)] ?_)
    rintro a A ⟨t4, -⟩
    refine wp_ret ?_
    refine bodyPost_ret (results_tmp rfl _ _ _) A.2 ⟨⟨r6, k, q, ?_, ownE_base FO BW.size, hB, hN, hF, by omega⟩, BW2⟩
    show Ending.returned (a.eval (.tmp 4)) = _
    rw [t4]
end Go.Proofs.Ytijibdapooalcab.Win
