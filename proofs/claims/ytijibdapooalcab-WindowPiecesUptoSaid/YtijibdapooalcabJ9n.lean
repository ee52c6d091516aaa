import Derived.Test.YtijibdapooalcabJ9m
namespace Go.Proofs.Ytijibdapooalcab.Win
open Go.RowKit Gf8 Aes By8 Cel Cf
/- The program's put. Written by tools/mkJ9n.py. -/

/-- No block below B has changed, and none of another type than an epochs' or a tags' row. -/
structure Kb (B : Nat) (V W : World) : Prop where
  bel : Below B V W
  sz : B ≤ W.heap.size
  kp : ∀ (g : Nat) (c : Array Value) (u : TypeId), u ≠ 47 → u ≠ 36 → V.heap[g]? = some (.cells c u) → W.heap[g]? = some (.cells c u)
theorem kb_refl {B : Nat} {V : World} (h : B ≤ V.heap.size) : Kb B V V := ⟨Below.refl _ _, h, fun _ _ _ _ _ q => q⟩
section
variable {B n s : Nat} {V W X : World} {v : Value} {xs : List Value} {t : TypeId}
theorem Kb.on (h : Kb B V W) (b : Below W.heap.size W X) : Kb B V X := ⟨h.bel.trans (b.mono h.sz), Nat.le_trans h.sz b.size, fun g c u h1 h2 q => on9 (h.kp g c u h1 h2 q) b⟩
theorem Kb.over (h : Kb B V W) (own : W.ownsRow B t s v n xs) (ht : t = 47 ∨ t = 36) (gr : W.grownBy X v.ownBlock) : Kb B V X :=
  ⟨h.bel.grown gr h.sz (fun k hk => (own.lt k hk).1), Nat.le_trans h.sz gr.size, fun g c u h1 h2 q => heapE_over own gr (h.kp g c u h1 h2 q) (by rcases ht with rfl | rfl; exact h1; exact h2)⟩
theorem Kb.cell {g k : Nat} {c : Array Value} {x : Value} (h : Kb B V W) (hg : W.heap[g]? = some (.cells c 47)) (hB : B ≤ g) : Kb B V (W.setCell ⟨g, k, none⟩ x) :=
  ⟨h.bel.setCell (p := ⟨g, k, none⟩) hB x, by rw [World.size_setCell]; exact h.sz, fun g2 c2 u h1 h2 q => by
    have q2 := h.kp g2 c2 u h1 h2 q
    rw [heap4o _ hg (ne_type hg q2 (Ne.symm h1))]
    exact q2⟩
end
theorem row_some {W : World} {B n s : Nat} {t : TypeId} {v : Value} {xs : List Value} (h : W.ownsRow B t s v n xs) (h0 : 0 < n) : ∃ g c, v = .slice (some ⟨g, 0, none⟩) n c := by
  rcases h.2 with ⟨_, q⟩ | ⟨g, c, _, q, _⟩
  · omega
  · exact ⟨g, c, q⟩
theorem up_up {α : Type} {f : Nat → α} {k : Nat} {x y : α} : up (up f k x) k y = up f k y := funext fun j => by
  by_cases e : j = k
  · subst e; rw [up_at, up_at]
  · rw [up_ne _ _ e, up_ne _ _ e, up_ne _ _ e]
theorem NwE.tagc {B n k g c : Nat} {W : World} {nu : Nat → Int} {tw : Nat → Value} {ln : Nat → Nat} {t : Nat → Nat → Nat → Nat} (h : NwE B W (.slice (some ⟨g, 0, none⟩) n c) n nu tw ln t) (hk : k < n) : W.cell? ⟨g, 0 + k * 2 + 1, none⟩ = some (tw k) := by
  obtain ⟨_, _, _, cur, hg, _, h4⟩ := own_cells h.row
  rw [cell_of_row _ _ _ _ _ _ hg, show 0 + k * 2 + 1 = k * 2 + 1 by omega, h4 _ (by omega)]
  exact (epV_at nu tw n k hk).2
/-- One list has been grown, the row still names the old one. -/
structure Gr1 (B : Nat) (X : World) (g c n : Nat) (nu : Nat → Int) (tw : Nat → Value) (ln : Nat → Nat) (t : Nat → Nat → Nat → Nat) (k : Nat) (a : Value) (m : Nat) (s : Nat → Nat → Nat) : Prop where
  ex : ∃ W, NwE B W (.slice (some ⟨g, 0, none⟩) n c) n nu tw ln t ∧ W.grownBy X (tw k).ownBlock ∧ X.ownsRow B 36 16 a m (tgV s m) ∧ (a.ownBlock = (tw k).ownBlock ∨ ∀ b, a.ownBlock = some b → W.heap.size ≤ b)
section
variable {B : Nat} {V X : World} {g c n : Nat} {nu : Nat → Int} {tw : Nat → Value} {ln : Nat → Nat} {t : Nat → Nat → Nat → Nat} {k : Nat} {a : Value} {m : Nat} {s : Nat → Nat → Nat}
theorem Gr1.put (h : Gr1 B X g c n nu tw ln t k a m s) (hk : k < n) (hs : ∀ j, j < m → ∀ i, i < 16 → s j i < 256) : NwE B (X.setCell ⟨g, 0 + k * 2 + 1, none⟩ a) (.slice (some ⟨g, 0, none⟩) n c) n nu (up tw k a) (up ln k m) (up t k s) := by
  obtain ⟨W, h1, h2, h3, h4⟩ := h.ex
  exact h1.putL hk h3 h2 h4 hs
theorem Gr1.shp (h : Gr1 B X g c n nu tw ln t k a m s) : ∃ g n c, a = .slice g n c := by
  obtain ⟨W, h1, h2, h3, h4⟩ := h.ex
  exact ownE_shp h3
theorem Gr1.cell (h : Gr1 B X g c n nu tw ln t k a m s) (hk : k < n) : X.cell? ⟨g, 0 + k * 2 + 1, none⟩ = some (tw k) := by
  obtain ⟨W, h1, h2, h3, h4⟩ := h.ex
  obtain ⟨_, _, _, cur, hg, _, h5⟩ := own_cells (h1.rest hk h2).1
  rw [cell_of_row _ _ _ _ _ _ hg, show 0 + k * 2 + 1 = k * 2 + 1 by omega, h5 _ (by omega)]
  exact (epV_at nu tw n k hk).2
theorem Gr1.frz (h : Gr1 B X g c n nu tw ln t k a m s) (hk : k < n) : X.frozen? ⟨g, 0 + k * 2 + 1, none⟩ = false := by
  obtain ⟨W, h1, h2, h3, h4⟩ := h.ex
  obtain ⟨_, _, _, cur, hg, _, _⟩ := own_cells (h1.rest hk h2).1
  exact frozen4 hg
theorem Gr1.kb (h : Gr1 B X g c n nu tw ln t k a m s) (hk : k < n) (hK : Kb B V X) : Kb B V (X.setCell ⟨g, 0 + k * 2 + 1, none⟩ a) := by
  obtain ⟨W, h1, h2, h3, h4⟩ := h.ex
  obtain ⟨hB, _, _, cur, hg, _, _⟩ := own_cells (h1.rest hk h2).1
  exact hK.cell hg hB
end
section
variable {o : Oper} {a : Act} {w : World}
theorem execStT6 {x y : Operand} {b k : Nat} {v old : Value} (ho : o.op = .store 25 x y) (hx : a.eval x = .pointer (some ⟨b, k, none⟩)) (hy : a.eval y = v) (hv : ∃ g n c, v = .slice g n c) (hc : w.cell? ⟨b, k, none⟩ = some old) (hf : w.frozen? ⟨b, k, none⟩ = false) : (execOp a.eval o).run Try.prog w = .ok .skip (w.setCell ⟨b, k, none⟩ v) := by
  obtain ⟨g, n, c, rfl⟩ := hv
  unfold execOp
  simp only [ho, hx, hy]
  simp [go_sem, hc, hf]
theorem execBdE1 {x : Operand} {z : Int} (ho : o.op = .build 47 #[(0, x)]) (hx : a.eval x = .int .i64 z) : (execOp a.eval o).run Try.prog w = .ok (.value (.agg (epC z (.slice none 0 0)))) w := by
  unfold execOp
  simp only [ho, List.map_toArray, List.map_cons, List.map_nil, hx]
  simp [go_sem]
  rfl
end
set_option maxRecDepth 100000 in
set_option maxHeartbeats 4000000 in
/-- The program's put. -/
theorem pput (v w : Value) (e : Int) (n m : Nat) (nu : Nat → Int) (tw : Nat → Value) (ln : Nat → Nat) (t : Nat → Nat → Nat → Nat) (q : Nat → Nat → Nat) (B : Nat) (V : World) (hNE : NwE B V v n nu tw ln t) (hFT : V.ownsRow B 36 16 w m (tgV q m)) (hq : ∀ j, j < m → ∀ i, i < 16 → q j i < 256) (hm0 : 0 < m) (hm : m ≤ 4096) (hln : ∀ j, j < n → ln j ≤ 4096) (hn8 : n ≤ 8) (hz : I64 e) (hNf : (tgL m q).Nodup) (hN : ∀ j, j < n → (tgL (ln j) (t j) ++ tgL m q).Nodup) (hB : B ≤ V.heap.size) :
    Calls Try.prog 23 #[v, .int .i64 e, w] V fun e' w' => ∃ r n2 nu2 tw2 ln2 t2, e' = .returned r ∧ NwE B w' r n2 nu2 tw2 ln2 t2 ∧ esL n2 nu2 ln2 t2 = putE (esL n nu ln t) e (srt (tgL m q)) ∧ Kb B V w' := by
  go_enter Try.func23, Try.ntmps23
  refine wo_ 60 [(0, v), (1, .int .i64 e), (2, w)] ?_
  rintro a A ⟨t0, t1, t2, -⟩
  have FE := hNE
  have FT := hFT
  have FK := kb_refl hB
  refine wp_seq ?_
  refine wi_ A (h3_ t0 t1 t2) (rf_ [] (h3_ t0 t1 t2) ?_)
  rintro a A - ⟨t0, t1, t2, -⟩
  refine wp_seq ?_
  refine wi_ A (h3_ t0 t1 t2) (rf_ [(7, .int .i64 ((0 : Nat) : Int))] (h3_ t0 t1 t2) ?_)
  rintro a A ⟨t7, -⟩ ⟨t0, t1, t2, -⟩
  refine wp_seq ?_
  refine wp_block ?_
  refine wp_loop (fun a W => ∃ (i : Nat), i ≤ n ∧ (∀ j, j < i → nu j < e) ∧ (a.tmps.size = 60 ∧ a.defers = []) ∧ a.eval (.tmp 0) = v ∧ a.eval (.tmp 1) = .int .i64 e ∧ a.eval (.tmp 2) = w ∧ a.eval (.tmp 7) = .int .i64 ((i : Nat) : Int) ∧ (NwE B W v n nu tw ln t) ∧ (W.ownsRow B 36 16 w m (tgV q m)) ∧ (Kb B V W)) (fun a _ => n - (intOf (a.eval (.tmp 7))).toNat) ⟨0, Nat.zero_le _, fun j h => absurd h (Nat.not_lt_zero j), A, t0, t1, t2, t7, FE, FT, FK⟩ ?_
  clear A t0 t1 t2 t7 FE FT FK a
  rintro a XL ⟨i, hi, hlt, A, t0, t1, t2, t7, FE, FT, FK⟩
  have esi := t7
  refine wp_seq ?_
  refine wp_seq ?_
  by_cases lti : i < n
  · by_cases hc1 : nu i < e
    · obtain ⟨eb, eo, ec, ee_, heb, hec⟩ := FE.eps.at (show 0 < n by omega)
      refine wi_ A (h4_ t0 t1 t2 t7) (rv_ 2 (.int .i64 ((n : Nat) : Int)) (fun a ee => execLenEs (len := n) rfl (ee _) FE.eps.shp) (rv_ 3 (.bool true) (fun a ee => execDec (execLtW (p := i) (q := n) rfl (ee _) (ee _)) (decide_eq_true (by omega))) (rv_ 7 (.pointer (some ⟨eb, eo + i * 2, none⟩)) (fun a ee => execIdxEs (k := i) rfl ((ee _).trans ee_) (ee _) lti) (rv_ 8 (.pointer (some ⟨eb, eo + i * 2 + 0, none⟩)) (fun a ee => execFldE0 rfl (ee _)) (rv_ 9 (.int .i64 (nu i)) (fun a ee => execLd2 rfl (ee _) (hec i lti).1) (rv_ 11 (.bool true) (fun a ee => execDec (exIlss2 (p := (nu i)) (q := e) rfl (ee _) (ee _)) (decide_eq_true hc1)) (rf_ [(20, .bool true)] (h4_ t0 t1 t2 t7) ?_)))))))
      rintro a A ⟨t20, -⟩ ⟨t0, t1, t2, t7, -⟩
      refine wp_cond_true t20 ?_
      refine wp_skip ?_
      clear t20
      refine wp_block ?_
      refine wi_ A (h4_ t0 t1 t2 t7) (rv_ 1 (.int .i64 ((i + 1 : Nat) : Int)) (fun a ee => execAd8 (p := i) (q := 1) rfl (ee _) rfl (by omega)) (rf_ [(7, .int .i64 ((i + 1 : Nat) : Int))] (h3_ t0 t1 t2) ?_))
      rintro a A ⟨t7, -⟩ ⟨t0, t1, t2, -⟩
      exact ⟨⟨i + 1, lti, fun j hj => by rcases Nat.lt_or_eq_of_le (Nat.le_of_lt_succ hj) with h_ | h_; exact hlt j h_; exact h_ ▸ hc1, A, t0, t1, t2, t7, FE, FT, FK⟩, by show n - (intOf (a.eval (.tmp 7))).toNat < n - (intOf (Act.eval _ (.tmp 7))).toNat; rw [t7, esi]; show n - (i + 1) < n - i; omega⟩
    · obtain ⟨eb, eo, ec, ee_, heb, hec⟩ := FE.eps.at (show 0 < n by omega)
      refine wi_ A (h4_ t0 t1 t2 t7) (rv_ 2 (.int .i64 ((n : Nat) : Int)) (fun a ee => execLenEs (len := n) rfl (ee _) FE.eps.shp) (rv_ 3 (.bool true) (fun a ee => execDec (execLtW (p := i) (q := n) rfl (ee _) (ee _)) (decide_eq_true (by omega))) (rv_ 7 (.pointer (some ⟨eb, eo + i * 2, none⟩)) (fun a ee => execIdxEs (k := i) rfl ((ee _).trans ee_) (ee _) lti) (rv_ 8 (.pointer (some ⟨eb, eo + i * 2 + 0, none⟩)) (fun a ee => execFldE0 rfl (ee _)) (rv_ 9 (.int .i64 (nu i)) (fun a ee => execLd2 rfl (ee _) (hec i lti).1) (rv_ 11 (.bool false) (fun a ee => execDec (exIlss2 (p := (nu i)) (q := e) rfl (ee _) (ee _)) (decide_eq_false hc1)) (rf_ [(20, .bool false)] (h4_ t0 t1 t2 t7) ?_)))))))
      rintro a A ⟨t20, -⟩ ⟨t0, t1, t2, t7, -⟩
      refine wp_cond_false t20 ?_
      refine wp_exit ?_
      first | with_reducible refine exit_in ?_ | with_reducible refine exit_then (exit_in ?_) | with_reducible refine exit_then (exit_then (exit_in ?_)) | refine exit_in ?_ | refine exit_then (exit_in ?_) | refine exit_then (exit_then (exit_in ?_))
      clear t20 esi
      refine wp_seq ?_
      refine wp_seq ?_
      by_cases hc2 : nu i > e
      · have hnk : i < n → e < nu i := fun _ => by omega
        refine wi_ A (h4_ t0 t1 t2 t7) (rv_ 2 (.int .i64 ((n : Nat) : Int)) (fun a ee => execLenEs (len := n) rfl (ee _) FE.eps.shp) (rv_ 3 (.bool false) (fun a ee => execDec (execEqN (p := i) (q := n) rfl (ee _) (ee _)) (decide_eq_false (by omega))) (rv_ 7 (.pointer (some ⟨eb, eo + i * 2, none⟩)) (fun a ee => execIdxEs (k := i) rfl ((ee _).trans ee_) (ee _) lti) (rv_ 8 (.pointer (some ⟨eb, eo + i * 2 + 0, none⟩)) (fun a ee => execFldE0 rfl (ee _)) (rv_ 9 (.int .i64 (nu i)) (fun a ee => execLd2 rfl (ee _) (hec i lti).1) (rv_ 11 (.bool true) (fun a ee => execDec (exIgtr2 (p := (nu i)) (q := e) rfl (ee _) (ee _)) (decide_eq_true hc2)) (rf_ [(35, .bool true)] (h4_ t0 t1 t2 t7) ?_)))))))
        rintro a A ⟨t35, -⟩ ⟨t0, t1, t2, t7, -⟩
        refine wp_cond_true t35 ?_
        clear t35
        obtain ⟨g40, egg40⟩ : ∃ z_ : Nat, XL.heap.size = z_ := ⟨_, rfl⟩
        refine wi_ A (h4_ t0 t1 t2 t7) (rv_ 3 (.agg (epC e (.slice none 0 0))) (fun a ee => execBdE1 rfl (ee _)) (rs_ 4 (fun a ee => ?_)))
        refine stepV rfl rfl (execBsEp rfl (ee _) ⟨_, _, _, rfl⟩) ⟨.slice (some ⟨g40, 0, none⟩) 1 1, ⟨_, rfl, by subst egg40; rfl⟩, fun X5_1 hX => ?_⟩
        obtain ⟨BB, FE, FT, FK, Fx, FD⟩ : True ∧ (NwE B X5_1 v n nu tw ln t) ∧ (X5_1.ownsRow B 36 16 w m (tgV q m)) ∧ (Kb B V X5_1) ∧ (X5_1.heap[g40]? = some (.cells (epC e (.slice none 0 0)) 47)) ∧ (v.ownBlock ≠ some g40) := by subst hX egg40; exact ⟨(trivial : True), FE.on (belNew XL _), ownE_below FT (belNew XL _), FK.on (belNew XL _), heapNew XL _, fun q_ => Nat.lt_irrefl _ (FE.lt.1 _ q_)⟩
        clear hX egg40 ee a
        refine rc_ 5 (pinsert v n i nu tw e (.slice none 0 0) g40 B X5_1 FE.row Fx FD (fun j_ hj_ => ownE_shp (FE.lists j_ hj_)) rfl hi FK.sz (by omega)) fun e_ X5 hh => ?_
        obtain ⟨r41, he, own', gr⟩ := hh
        refine ⟨_, he, ?_⟩
        obtain ⟨BB, FE2, FT2, FK2⟩ : True ∧ (NwE B X5 (r41) (n + 1) (insF nu i e) (insF tw i (.slice none 0 0)) (insF ln i 0) (insF t i (fun _ _ => 0))) ∧ (X5.ownsRow B 36 16 w m (tgV q m)) ∧ (Kb B V X5) := ⟨(trivial : True), FE.ins hi own' gr hz, ownE_over FT FE.row gr (by decide), FK.over FE.row (Or.inl rfl) gr⟩
        clear FE FT FK Fx
        refine rf_ [(0, r41)] (h3_ t1 t2 t7) ?_
        rintro a A ⟨t0, -⟩ ⟨t1, t2, t7, -⟩
        clear FD
        have FE := FE2
        have FT := FT2
        have FK := FK2
        clear FE2 FT2 FK2
        have hat : i < n + 1 := by omega
        obtain ⟨gq, cq, rfl⟩ := row_some FE.row (by omega)
        refine wp_seq ?_
        refine wi_ A (h4_ t0 t1 t2 t7) (rv_ 4 (.pointer (some ⟨gq, 0 + i * 2, none⟩)) (fun a ee => execIdxEs (k := i) rfl ((ee _).trans rfl) (ee _) hat) (rv_ 5 (.pointer (some ⟨gq, 0 + i * 2 + 1, none⟩)) (fun a ee => execFldE1 rfl (ee _)) (rv_ 6 (.slice none 0 0) (fun a ee => execLdTs rfl (ee _) ((FE.tagc hat).trans (congrArg some insF_at))) (rs_ 8 (fun a ee => ?_)))))
        have hli_ := FE.lists i hat
        rw [insF_at, insF_at, insF_at] at hli_
        refine stepAppTL (v := .slice none 0 0) (n := 0) (m := m) (t := fun _ _ => 0) (p := q) rfl rfl rfl ((ee _)) (ee _) hli_ (own_tgs FT hq) hm0 (by have := hm; omega) FK.sz fun v50 X6_1 own' gr loc => ⟨_, ⟨_, rfl, rfl⟩, eqw ?_⟩
        obtain ⟨BB, FG, FK2⟩ : True ∧ (Gr1 B X6_1 gq cq (n + 1) (insF nu i e) (insF tw i (.slice none 0 0)) (insF ln i 0) (insF t i (fun _ _ => 0)) i v50 (0 + m) (catT (0) (fun _ _ => 0) q)) ∧ (Kb B V X6_1) := ⟨(trivial : True), ⟨⟨_, FE, (by rw [insF_at]; exact gr), own', (by rw [insF_at]; exact loc)⟩⟩, FK.over hli_ (Or.inr rfl) gr⟩
        clear FE FT FK ee a
        refine rv_ 9 (.pointer (some ⟨gq, 0 + i * 2, none⟩)) (fun a ee => execIdxEs (k := i) rfl ((ee _).trans rfl) (ee _) hat) (rv_ 10 (.pointer (some ⟨gq, 0 + i * 2 + 1, none⟩)) (fun a ee => execFldE1 rfl (ee _)) (rs_ 11 (fun a ee => ?_)))
        refine stepS rfl rfl (execStT6 rfl (ee _) (ee _) FG.shp (FG.cell hat) (FG.frz hat)) ⟨_, ⟨_, rfl, rfl⟩, fun X6 hX => ?_⟩
        obtain ⟨BB, FE3, FK3⟩ : True ∧ (NwE B X6 (.slice (some ⟨gq, 0, none⟩) (n + 1) cq) (n + 1) (insF nu i e) (up (insF tw i (.slice none 0 0)) i v50) (up (insF ln i 0) i (0 + m)) (up (insF t i (fun _ _ => 0)) i (catT (0) (fun _ _ => 0) q))) ∧ (Kb B V X6) := by subst hX; exact ⟨(trivial : True), FG.put hat (cat_byt (fun j h => absurd h (Nat.not_lt_zero j)) hq), FG.kb hat FK2⟩
        clear FG FK2 hX ee a
        refine rf_ [] (h2_ t0 t7) ?_
        rintro a A - ⟨t0, t7, -⟩
        have hso : ∀ {X : World}, NwE B X (.slice (some ⟨gq, 0, none⟩) (n + 1) cq) (n + 1) (insF nu i e) (up (insF tw i (.slice none 0 0)) i v50) (up (insF ln i 0) i (0 + m)) (up (insF t i (fun _ _ => 0)) i (catT (0) (fun _ _ => 0) q)) → X.ownsRow B 36 16 v50 (0 + m) (tgV (catT (0) (fun _ _ => 0) q) (0 + m)) := fun hX => by have h_ := hX.lists i hat; rw [up_at, up_at, up_at] at h_; exact h_
        have hso2 : ∀ {X X2 : World} {s_ : Nat → Nat → Nat}, NwE B X (.slice (some ⟨gq, 0, none⟩) (n + 1) cq) (n + 1) (insF nu i e) (up (insF tw i (.slice none 0 0)) i v50) (up (insF ln i 0) i (0 + m)) (up (insF t i (fun _ _ => 0)) i (catT (0) (fun _ _ => 0) q)) → X2.ownsRow B 36 16 v50 (0 + m) (tgV s_ (0 + m)) → X.grownBy X2 v50.ownBlock → (∀ j, j < 0 + m → ∀ i, i < 16 → s_ j i < 256) → NwE B X2 (.slice (some ⟨gq, 0, none⟩) (n + 1) cq) (n + 1) (insF nu i e) (up (insF tw i (.slice none 0 0)) i v50) (up (insF ln i 0) i (0 + m)) (up (insF t i (fun _ _ => 0)) i s_) := fun hX o_ g_ b_ => by
          have h_ := hX.sorted hat (s := _) (by rw [up_at, up_at]; exact o_) (by rw [up_at]; exact g_) (by rw [up_at]; exact b_)
          rw [up_up] at h_
          exact h_
        refine wp_seq ?_
        refine wi_ A (h2_ t0 t7) (rv_ 2 (.pointer (some ⟨gq, 0 + i * 2, none⟩)) (fun a ee => execIdxEs (k := i) rfl ((ee _).trans rfl) (ee _) hat) (rv_ 3 (.pointer (some ⟨gq, 0 + i * 2 + 1, none⟩)) (fun a ee => execFldE1 rfl (ee _)) (rv_ 4 (v50) (fun a ee => execLdTs rfl (ee _) ((FE3.tagc hat).trans (congrArg some (up_at _ _ _)))) (rc_ 5 (psort (n := 0 + m) (t := catT (0) (fun _ _ => 0) q) (hso FE3) (cat_byt (fun j h => absurd h (Nat.not_lt_zero j)) hq) (by omega) (by have := hm; omega)) fun e_ X7 hh => ?_))))
        obtain ⟨he, sq, own', hsb, hsp, hss, gr⟩ := hh
        refine ⟨_, he, ?_⟩
        obtain ⟨BB, FE4, FK4, FSp⟩ : True ∧ (NwE B X7 (.slice (some ⟨gq, 0, none⟩) (n + 1) cq) (n + 1) (insF nu i e) (up (insF tw i (.slice none 0 0)) i v50) (up (insF ln i 0) i (0 + m)) (up (insF t i (fun _ _ => 0)) i sq)) ∧ (Kb B V X7) ∧ ((tgL (0 + m) sq).Perm (tgL (0 + m) (catT (0) (fun _ _ => 0) q)) ∧ (tgL (0 + m) sq).Pairwise (· ≤ ·)) := ⟨(trivial : True), hso2 FE3 own' gr hsb, FK3.over (hso FE3) (Or.inr rfl) gr, ⟨hsp, hss⟩⟩
        clear FE3 FK3
        refine rf_ [] (h1_ t0) ?_
        rintro a A - ⟨t0, -⟩
        obtain ⟨hp1, hp2⟩ := FSp
        refine wp_seq ?_
        refine wi_ A (h1_ t0) (rg_ [(6, .slice (some ⟨gq, 0, none⟩) (n + 1) cq)] ?_)
        rintro a A ⟨t6, -⟩
        refine wp_ret ?_
        repeat (first | with_reducible refine ret_in ?_ | with_reducible refine ret_then ?_)
        refine bodyPost_ret (results_tmp rfl _ _ _) A.2 ⟨_, _, _, _, _, _, ?_, FE4, put_new hi hlt hnk hNf hp1 hp2, FK4⟩
        show Ending.returned (a.eval (.tmp 6)) = _
        rw [t6]
      · refine wi_ A (h4_ t0 t1 t2 t7) (rv_ 2 (.int .i64 ((n : Nat) : Int)) (fun a ee => execLenEs (len := n) rfl (ee _) FE.eps.shp) (rv_ 3 (.bool false) (fun a ee => execDec (execEqN (p := i) (q := n) rfl (ee _) (ee _)) (decide_eq_false (by omega))) (rv_ 7 (.pointer (some ⟨eb, eo + i * 2, none⟩)) (fun a ee => execIdxEs (k := i) rfl ((ee _).trans ee_) (ee _) lti) (rv_ 8 (.pointer (some ⟨eb, eo + i * 2 + 0, none⟩)) (fun a ee => execFldE0 rfl (ee _)) (rv_ 9 (.int .i64 (nu i)) (fun a ee => execLd2 rfl (ee _) (hec i lti).1) (rv_ 11 (.bool false) (fun a ee => execDec (exIgtr2 (p := (nu i)) (q := e) rfl (ee _) (ee _)) (decide_eq_false hc2)) (rf_ [(35, .bool false)] (h4_ t0 t1 t2 t7) ?_)))))))
        rintro a A ⟨t35, -⟩ ⟨t0, t1, t2, t7, -⟩
        refine wp_cond_false t35 ?_
        refine wp_skip ?_
        clear t35
        have hat := lti
        obtain ⟨gq, cq, rfl⟩ := row_some FE.row (by omega)
        clear hec heb ee_
        have hee : nu i = e := by omega
        have hbi := FE.byt i lti
        refine wp_seq ?_
        refine wi_ A (h4_ t0 t1 t2 t7) (rv_ 4 (.pointer (some ⟨gq, 0 + i * 2, none⟩)) (fun a ee => execIdxEs (k := i) rfl ((ee _).trans rfl) (ee _) hat) (rv_ 5 (.pointer (some ⟨gq, 0 + i * 2 + 1, none⟩)) (fun a ee => execFldE1 rfl (ee _)) (rv_ 6 (tw i) (fun a ee => execLdTs rfl (ee _) ((FE.tagc hat).trans (congrArg some rfl))) (rs_ 8 (fun a ee => ?_)))))
        have hli_ := FE.lists i hat
        refine stepAppTL (v := tw i) (n := ln i) (m := m) (t := t i) (p := q) rfl rfl rfl ((ee _)) (ee _) hli_ (own_tgs FT hq) hm0 (by have := hln i lti; omega) FK.sz fun v50 X6_1 own' gr loc => ⟨_, ⟨_, rfl, rfl⟩, eqw ?_⟩
        obtain ⟨BB, FG, FK2⟩ : True ∧ (Gr1 B X6_1 gq cq n nu tw ln t i v50 (ln i + m) (catT (ln i) (t i) q)) ∧ (Kb B V X6_1) := ⟨(trivial : True), ⟨⟨_, FE, (by exact gr), own', (by exact loc)⟩⟩, FK.over hli_ (Or.inr rfl) gr⟩
        clear FE FT FK ee a
        refine rv_ 9 (.pointer (some ⟨gq, 0 + i * 2, none⟩)) (fun a ee => execIdxEs (k := i) rfl ((ee _).trans rfl) (ee _) hat) (rv_ 10 (.pointer (some ⟨gq, 0 + i * 2 + 1, none⟩)) (fun a ee => execFldE1 rfl (ee _)) (rs_ 11 (fun a ee => ?_)))
        refine stepS rfl rfl (execStT6 rfl (ee _) (ee _) FG.shp (FG.cell hat) (FG.frz hat)) ⟨_, ⟨_, rfl, rfl⟩, fun X6 hX => ?_⟩
        obtain ⟨BB, FE3, FK3⟩ : True ∧ (NwE B X6 (.slice (some ⟨gq, 0, none⟩) n cq) n nu (up tw i v50) (up ln i (ln i + m)) (up t i (catT (ln i) (t i) q))) ∧ (Kb B V X6) := by subst hX; exact ⟨(trivial : True), FG.put hat (cat_byt hbi hq), FG.kb hat FK2⟩
        clear FG FK2 hX ee a
        refine rf_ [] (h2_ t0 t7) ?_
        rintro a A - ⟨t0, t7, -⟩
        have hso : ∀ {X : World}, NwE B X (.slice (some ⟨gq, 0, none⟩) n cq) n nu (up tw i v50) (up ln i (ln i + m)) (up t i (catT (ln i) (t i) q)) → X.ownsRow B 36 16 v50 (ln i + m) (tgV (catT (ln i) (t i) q) (ln i + m)) := fun hX => by have h_ := hX.lists i hat; rw [up_at, up_at, up_at] at h_; exact h_
        have hso2 : ∀ {X X2 : World} {s_ : Nat → Nat → Nat}, NwE B X (.slice (some ⟨gq, 0, none⟩) n cq) n nu (up tw i v50) (up ln i (ln i + m)) (up t i (catT (ln i) (t i) q)) → X2.ownsRow B 36 16 v50 (ln i + m) (tgV s_ (ln i + m)) → X.grownBy X2 v50.ownBlock → (∀ j, j < ln i + m → ∀ i, i < 16 → s_ j i < 256) → NwE B X2 (.slice (some ⟨gq, 0, none⟩) n cq) n nu (up tw i v50) (up ln i (ln i + m)) (up t i s_) := fun hX o_ g_ b_ => by
          have h_ := hX.sorted hat (s := _) (by rw [up_at, up_at]; exact o_) (by rw [up_at]; exact g_) (by rw [up_at]; exact b_)
          rw [up_up] at h_
          exact h_
        refine wp_seq ?_
        refine wi_ A (h2_ t0 t7) (rv_ 2 (.pointer (some ⟨gq, 0 + i * 2, none⟩)) (fun a ee => execIdxEs (k := i) rfl ((ee _).trans rfl) (ee _) hat) (rv_ 3 (.pointer (some ⟨gq, 0 + i * 2 + 1, none⟩)) (fun a ee => execFldE1 rfl (ee _)) (rv_ 4 (v50) (fun a ee => execLdTs rfl (ee _) ((FE3.tagc hat).trans (congrArg some (up_at _ _ _)))) (rc_ 5 (psort (n := ln i + m) (t := catT (ln i) (t i) q) (hso FE3) (cat_byt hbi hq) (by omega) (by have := hln i lti; omega)) fun e_ X7 hh => ?_))))
        obtain ⟨he, sq, own', hsb, hsp, hss, gr⟩ := hh
        refine ⟨_, he, ?_⟩
        obtain ⟨BB, FE4, FK4, FSp⟩ : True ∧ (NwE B X7 (.slice (some ⟨gq, 0, none⟩) n cq) n nu (up tw i v50) (up ln i (ln i + m)) (up t i sq)) ∧ (Kb B V X7) ∧ ((tgL (ln i + m) sq).Perm (tgL (ln i + m) (catT (ln i) (t i) q)) ∧ (tgL (ln i + m) sq).Pairwise (· ≤ ·)) := ⟨(trivial : True), hso2 FE3 own' gr hsb, FK3.over (hso FE3) (Or.inr rfl) gr, ⟨hsp, hss⟩⟩
        clear FE3 FK3
        refine rf_ [] (h1_ t0) ?_
        rintro a A - ⟨t0, -⟩
        obtain ⟨hp1, hp2⟩ := FSp
        refine wp_seq ?_
        refine wi_ A (h1_ t0) (rg_ [(6, .slice (some ⟨gq, 0, none⟩) n cq)] ?_)
        rintro a A ⟨t6, -⟩
        refine wp_ret ?_
        repeat (first | with_reducible refine ret_in ?_ | with_reducible refine ret_then ?_)
        refine bodyPost_ret (results_tmp rfl _ _ _) A.2 ⟨_, _, _, _, _, _, ?_, FE4, put_there lti hlt hee (hN i lti) hp1 hp2, FK4⟩
        show Ending.returned (a.eval (.tmp 6)) = _
        rw [t6]
  · refine wi_ A (h4_ t0 t1 t2 t7) (rv_ 2 (.int .i64 ((n : Nat) : Int)) (fun a ee => execLenEs (len := n) rfl (ee _) FE.eps.shp) (rv_ 3 (.bool false) (fun a ee => execDec (execLtW (p := i) (q := n) rfl (ee _) (ee _)) (decide_eq_false (by omega))) (rf_ [(20, .bool false)] (h4_ t0 t1 t2 t7) ?_)))
    rintro a A ⟨t20, -⟩ ⟨t0, t1, t2, t7, -⟩
    refine wp_cond_false t20 ?_
    refine wp_exit ?_
    first | with_reducible refine exit_in ?_ | with_reducible refine exit_then (exit_in ?_) | with_reducible refine exit_then (exit_then (exit_in ?_)) | refine exit_in ?_ | refine exit_then (exit_in ?_) | refine exit_then (exit_then (exit_in ?_))
    clear t20 esi
    refine wp_seq ?_
    refine wp_seq ?_
    have hnk : i < n → e < nu i := fun h_ => absurd h_ lti
    refine wi_ A (h4_ t0 t1 t2 t7) (rv_ 2 (.int .i64 ((n : Nat) : Int)) (fun a ee => execLenEs (len := n) rfl (ee _) FE.eps.shp) (rv_ 3 (.bool true) (fun a ee => execDec (execEqN (p := i) (q := n) rfl (ee _) (ee _)) (decide_eq_true (by omega))) (rf_ [(35, .bool true)] (h4_ t0 t1 t2 t7) ?_)))
    rintro a A ⟨t35, -⟩ ⟨t0, t1, t2, t7, -⟩
    refine wp_cond_true t35 ?_
    clear t35
    obtain ⟨g40, egg40⟩ : ∃ z_ : Nat, XL.heap.size = z_ := ⟨_, rfl⟩
    refine wi_ A (h4_ t0 t1 t2 t7) (rv_ 3 (.agg (epC e (.slice none 0 0))) (fun a ee => execBdE1 rfl (ee _)) (rs_ 4 (fun a ee => ?_)))
    refine stepV rfl rfl (execBsEp rfl (ee _) ⟨_, _, _, rfl⟩) ⟨.slice (some ⟨g40, 0, none⟩) 1 1, ⟨_, rfl, by subst egg40; rfl⟩, fun X5_1 hX => ?_⟩
    obtain ⟨BB, FE, FT, FK, Fx, FD⟩ : True ∧ (NwE B X5_1 v n nu tw ln t) ∧ (X5_1.ownsRow B 36 16 w m (tgV q m)) ∧ (Kb B V X5_1) ∧ (X5_1.heap[g40]? = some (.cells (epC e (.slice none 0 0)) 47)) ∧ (v.ownBlock ≠ some g40) := by subst hX egg40; exact ⟨(trivial : True), FE.on (belNew XL _), ownE_below FT (belNew XL _), FK.on (belNew XL _), heapNew XL _, fun q_ => Nat.lt_irrefl _ (FE.lt.1 _ q_)⟩
    clear hX egg40 ee a
    refine rc_ 5 (pinsert v n i nu tw e (.slice none 0 0) g40 B X5_1 FE.row Fx FD (fun j_ hj_ => ownE_shp (FE.lists j_ hj_)) rfl hi FK.sz (by omega)) fun e_ X5 hh => ?_
    obtain ⟨r41, he, own', gr⟩ := hh
    refine ⟨_, he, ?_⟩
    obtain ⟨BB, FE2, FT2, FK2⟩ : True ∧ (NwE B X5 (r41) (n + 1) (insF nu i e) (insF tw i (.slice none 0 0)) (insF ln i 0) (insF t i (fun _ _ => 0))) ∧ (X5.ownsRow B 36 16 w m (tgV q m)) ∧ (Kb B V X5) := ⟨(trivial : True), FE.ins hi own' gr hz, ownE_over FT FE.row gr (by decide), FK.over FE.row (Or.inl rfl) gr⟩
    clear FE FT FK Fx
    refine rf_ [(0, r41)] (h3_ t1 t2 t7) ?_
    rintro a A ⟨t0, -⟩ ⟨t1, t2, t7, -⟩
    clear FD
    have FE := FE2
    have FT := FT2
    have FK := FK2
    clear FE2 FT2 FK2
    have hat : i < n + 1 := by omega
    obtain ⟨gq, cq, rfl⟩ := row_some FE.row (by omega)
    refine wp_seq ?_
    refine wi_ A (h4_ t0 t1 t2 t7) (rv_ 4 (.pointer (some ⟨gq, 0 + i * 2, none⟩)) (fun a ee => execIdxEs (k := i) rfl ((ee _).trans rfl) (ee _) hat) (rv_ 5 (.pointer (some ⟨gq, 0 + i * 2 + 1, none⟩)) (fun a ee => execFldE1 rfl (ee _)) (rv_ 6 (.slice none 0 0) (fun a ee => execLdTs rfl (ee _) ((FE.tagc hat).trans (congrArg some insF_at))) (rs_ 8 (fun a ee => ?_)))))
    have hli_ := FE.lists i hat
    rw [insF_at, insF_at, insF_at] at hli_
    refine stepAppTL (v := .slice none 0 0) (n := 0) (m := m) (t := fun _ _ => 0) (p := q) rfl rfl rfl ((ee _)) (ee _) hli_ (own_tgs FT hq) hm0 (by have := hm; omega) FK.sz fun v50 X6_1 own' gr loc => ⟨_, ⟨_, rfl, rfl⟩, eqw ?_⟩
    obtain ⟨BB, FG, FK2⟩ : True ∧ (Gr1 B X6_1 gq cq (n + 1) (insF nu i e) (insF tw i (.slice none 0 0)) (insF ln i 0) (insF t i (fun _ _ => 0)) i v50 (0 + m) (catT (0) (fun _ _ => 0) q)) ∧ (Kb B V X6_1) := ⟨(trivial : True), ⟨⟨_, FE, (by rw [insF_at]; exact gr), own', (by rw [insF_at]; exact loc)⟩⟩, FK.over hli_ (Or.inr rfl) gr⟩
    clear FE FT FK ee a
    refine rv_ 9 (.pointer (some ⟨gq, 0 + i * 2, none⟩)) (fun a ee => execIdxEs (k := i) rfl ((ee _).trans rfl) (ee _) hat) (rv_ 10 (.pointer (some ⟨gq, 0 + i * 2 + 1, none⟩)) (fun a ee => execFldE1 rfl (ee _)) (rs_ 11 (fun a ee => ?_)))
    refine stepS rfl rfl (execStT6 rfl (ee _) (ee _) FG.shp (FG.cell hat) (FG.frz hat)) ⟨_, ⟨_, rfl, rfl⟩, fun X6 hX => ?_⟩
    obtain ⟨BB, FE3, FK3⟩ : True ∧ (NwE B X6 (.slice (some ⟨gq, 0, none⟩) (n + 1) cq) (n + 1) (insF nu i e) (up (insF tw i (.slice none 0 0)) i v50) (up (insF ln i 0) i (0 + m)) (up (insF t i (fun _ _ => 0)) i (catT (0) (fun _ _ => 0) q))) ∧ (Kb B V X6) := by subst hX; exact ⟨(trivial : True), FG.put hat (cat_byt (fun j h => absurd h (Nat.not_lt_zero j)) hq), FG.kb hat FK2⟩
    clear FG FK2 hX ee a
    refine rf_ [] (h2_ t0 t7) ?_
    rintro a A - ⟨t0, t7, -⟩
    have hso : ∀ {X : World}, NwE B X (.slice (some ⟨gq, 0, none⟩) (n + 1) cq) (n + 1) (insF nu i e) (up (insF tw i (.slice none 0 0)) i v50) (up (insF ln i 0) i (0 + m)) (up (insF t i (fun _ _ => 0)) i (catT (0) (fun _ _ => 0) q)) → X.ownsRow B 36 16 v50 (0 + m) (tgV (catT (0) (fun _ _ => 0) q) (0 + m)) := fun hX => by have h_ := hX.lists i hat; rw [up_at, up_at, up_at] at h_; exact h_
    have hso2 : ∀ {X X2 : World} {s_ : Nat → Nat → Nat}, NwE B X (.slice (some ⟨gq, 0, none⟩) (n + 1) cq) (n + 1) (insF nu i e) (up (insF tw i (.slice none 0 0)) i v50) (up (insF ln i 0) i (0 + m)) (up (insF t i (fun _ _ => 0)) i (catT (0) (fun _ _ => 0) q)) → X2.ownsRow B 36 16 v50 (0 + m) (tgV s_ (0 + m)) → X.grownBy X2 v50.ownBlock → (∀ j, j < 0 + m → ∀ i, i < 16 → s_ j i < 256) → NwE B X2 (.slice (some ⟨gq, 0, none⟩) (n + 1) cq) (n + 1) (insF nu i e) (up (insF tw i (.slice none 0 0)) i v50) (up (insF ln i 0) i (0 + m)) (up (insF t i (fun _ _ => 0)) i s_) := fun hX o_ g_ b_ => by
      have h_ := hX.sorted hat (s := _) (by rw [up_at, up_at]; exact o_) (by rw [up_at]; exact g_) (by rw [up_at]; exact b_)
      rw [up_up] at h_
      exact h_
    refine wp_seq ?_
    refine wi_ A (h2_ t0 t7) (rv_ 2 (.pointer (some ⟨gq, 0 + i * 2, none⟩)) (fun a ee => execIdxEs (k := i) rfl ((ee _).trans rfl) (ee _) hat) (rv_ 3 (.pointer (some ⟨gq, 0 + i * 2 + 1, none⟩)) (fun a ee => execFldE1 rfl (ee _)) (rv_ 4 (v50) (fun a ee => execLdTs rfl (ee _) ((FE3.tagc hat).trans (congrArg some (up_at _ _ _)))) (rc_ 5 (psort (n := 0 + m) (t := catT (0) (fun _ _ => 0) q) (hso FE3) (cat_byt (fun j h => absurd h (Nat.not_lt_zero j)) hq) (by omega) (by have := hm; omega)) fun e_ X7 hh => ?_))))
    obtain ⟨he, sq, own', hsb, hsp, hss, gr⟩ := hh
    refine ⟨_, he, ?_⟩
    obtain ⟨BB, FE4, FK4, FSp⟩ : True ∧ (NwE B X7 (.slice (some ⟨gq, 0, none⟩) (n + 1) cq) (n + 1) (insF nu i e) (up (insF tw i (.slice none 0 0)) i v50) (up (insF ln i 0) i (0 + m)) (up (insF t i (fun _ _ => 0)) i sq)) ∧ (Kb B V X7) ∧ ((tgL (0 + m) sq).Perm (tgL (0 + m) (catT (0) (fun _ _ => 0) q)) ∧ (tgL (0 + m) sq).Pairwise (· ≤ ·)) := ⟨(trivial : True), hso2 FE3 own' gr hsb, FK3.over (hso FE3) (Or.inr rfl) gr, ⟨hsp, hss⟩⟩
    clear FE3 FK3
    refine rf_ [] (h1_ t0) ?_
    rintro a A - ⟨t0, -⟩
    obtain ⟨hp1, hp2⟩ := FSp
    refine wp_seq ?_
    refine wi_ A (h1_ t0) (rg_ [(6, .slice (some ⟨gq, 0, none⟩) (n + 1) cq)] ?_)
    rintro a A ⟨t6, -⟩
    refine wp_ret ?_
    repeat (first | with_reducible refine ret_in ?_ | with_reducible refine ret_then ?_)
    refine bodyPost_ret (results_tmp rfl _ _ _) A.2 ⟨_, _, _, _, _, _, ?_, FE4, put_new hi hlt hnk hNf hp1 hp2, FK4⟩
    show Ending.returned (a.eval (.tmp 6)) = _
    rw [t6]
end Go.Proofs.Ytijibdapooalcab.Win
