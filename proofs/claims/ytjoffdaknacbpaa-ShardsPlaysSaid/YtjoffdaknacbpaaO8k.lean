import Derived.Test.YtjoffdaknacbpaaO8j
namespace Go.Proofs.Ytjoffdaknacbpaa.Sha
open Go.RowKit Gf8 Aes By8 Cel Cf Win Drw
/- awake; ShardsPlays. Written by tools/mkO8k.py. -/

theorem poff18 (lo hi : Nat) (v : Value) (o : Nat → Off) (k : Nat) (f : Nat → Nat) (z : Int) (V : World) (h : Flr V lo hi v o k) (e : o k = (f, z)) (hf : ∀ i, i < 16 → f i < 256) (hv : v ≠ .pointer none) : Calls Try.prog 12 #[v, .agg (bA 16 f), .int .i64 z] V fun e w' =>
    e = .returned (.tuple #[]) ∧ Flr w' lo hi v o (k + 1) ∧ (Below V.heap.size V w' ∨ ∃ b es clock, lo ≤ b ∧ b < hi ∧ V.heap[b]? = some (.map es clock) ∧ V.grownBy w' (some b)) := by
  have q := poff17 lo hi v o k V h (by rw [e]; exact hf)
  rw [e] at q
  exact q.mono fun _ _ ⟨h1, h2, _, h4⟩ => ⟨h1, h2 hv, h4⟩
theorem plow18 (lo hi : Nat) (v : Value) (o : Nat → Off) (k : Nat) (f : Nat → Nat) (y : Int) (V : World) (h : Flr V lo hi v o k) (hf : ∀ i, i < 16 → f i < 256) (hy : lwO o k (tv f 16) = some y) : Calls Try.prog 13 #[v, .agg (bA 16 f)] V fun e w' => e = .returned (.tuple #[.int .i64 y, .bool true]) ∧ Below V.heap.size V w' := by
  have q := plow17 lo hi v o k f V h hf
  rw [hy] at q
  exact q
theorem pnew18 (s : Int) (o : Nat → Off) (V : World) : Calls Try.prog 9 #[.int .i64 s] V fun e w' => (∃ v lo hi, e = .returned (.tuple #[v, .int .i64 ((nwE s : Nat) : Int)]) ∧ V.heap.size ≤ lo ∧ hi ≤ w'.heap.size ∧ Flr w' lo hi v o 0 ∧ ((v = .pointer none ∧ ¬ fitS s) ∨ ∃ fb, v = .pointer (some ⟨fb, 0, none⟩) ∧ fitS s)) ∧ Below V.heap.size V w' := by
  by_cases h : fitS s
  · obtain ⟨n, rfl⟩ : ∃ n : Nat, s = n := ⟨s.toNat, by have := h.1; omega⟩
    refine (pnew17t n o V (by have := h.1; omega) (by have := h.2; omega)).mono fun e w' ⟨⟨fb, h1, h2⟩, h3⟩ => ⟨⟨_, _, _, ?_, Nat.le_refl _, Nat.le_refl _, h2, Or.inr ⟨fb, rfl, h⟩⟩, h3⟩
    rw [h1, show nwE (n : Int) = 0 from if_pos h]
  · refine (pnew17f s V h).mono fun e w' ⟨h1, h3⟩ => ⟨⟨.pointer none, V.heap.size, V.heap.size, ?_, Nat.le_refl _, h3.size, Or.inl ⟨rfl, rfl⟩, Or.inl ⟨rfl, h⟩⟩, h3⟩
    rw [h1, show nwE s = 2 from if_neg h]
theorem off_keep {W X : World} {lo hi g : Nat} {c : Array Value} {t : TypeId} (hc : Below W.heap.size W X ∨ ∃ b es clock, lo ≤ b ∧ b < hi ∧ W.heap[b]? = some (.map es clock) ∧ W.grownBy X (some b)) (hg : W.heap[g]? = some (.cells c t)) : X.heap[g]? = some (.cells c t) := by
  rcases hc with hb | ⟨b, es, clock, _, _, hm, gr⟩
  · exact on9 hg hb
  · rw [gr.block g (Array.getElem?_eq_some_iff.1 hg).1 (fun e => by cases e; rw [hg] at hm; cases hm)]
    exact hg
def oA (j : Nat) : Off := (f7, if j = 0 then 7 else if j = 1 then 3 else 5)
theorem oA_low : lwO oA 3 (tv f7 16) = some 3 := by kernel_rfl
theorem oA_cnt : cnO oA 3 = 1 := by kernel_rfl
theorem plenA (lo hi : Nat) (v : Value) (V : World) (h : Flr V lo hi v oA 3) : Calls Try.prog 15 #[v] V fun e w' => e = .returned (.int .i64 ((1 : Nat) : Int)) ∧ Below V.heap.size V w' := by
  have q := plen17 lo hi v oA 3 V h (by omega)
  rw [oA_cnt] at q
  exact q
section
variable {o : Oper} {a : Act} {w : World}
theorem execEr0 {x : Operand} (ho : o.op = .binOp .neq 25 x (.const (.int .i64 0)) 25) (hx : a.eval x = .int .i64 ((0 : Nat) : Int)) : (execOp a.eval o).run Try.prog w = .ok (.value (.bool false)) w := by
  have h0 : a.eval (.const (.int .i64 0)) = .int .i64 0 := rfl
  unfold execOp
  simp only [ho, hx, h0]
  simp [go_sem]
end
theorem grR {W : World} {g : Nat} {c : Array Value} : W.grownBy (W.setRow g c) (some g) := by
  have hb : Below g W (W.setRow g c) := below4 (Below.refl _ _) (Nat.le_refl _) c
  refine ⟨hb.os, hb.tape, hb.output, hb.size, fun b hbs hne => ?_⟩
  rw [setRow_other _ _ _ _ (fun e => hne (by rw [e]))]
section
variable {W X : World} {B fsb bkb : Nat} {lo hi : Nat → Nat} {v rb r : Nat → Value} {o : Nat → Nat → Off} {cf cr : Nat → Nat}
/-- A row of another type may change. -/
theorem PlG.offT {g : Nat} {c : Array Value} {t : TypeId} (h : PlG W B fsb bkb lo hi v rb r o cf cr) (hg : W.heap[g]? = some (.cells c t)) (ht : t = 33) (gr : W.grownBy X (some g)) : PlG X B fsb bkb lo hi v rb r o cf cr := by
  subst ht
  have keep : ∀ (k : Nat) (d : Array Value) (u : TypeId), W.heap[k]? = some (Obj.cells d u) → u ≠ 33 → X.heap[k]? = some (Obj.cells d u) := fun k d u hk hu => by
    rw [gr.block k (Array.getElem?_eq_some_iff.1 hk).1 (fun e => by cases e; rw [hg] at hk; cases hk; exact hu rfl)]
    exact hk
  exact ⟨keep _ _ _ h.fs (by decide), keep _ _ _ h.bk (by decide), fun j hj => (h.fl j hj).offT hg (by decide) (by decide) gr, h.dj, fun j hj => Nat.le_trans (h.hs j hj) gr.size, h.rs.offT hg (by decide) gr, h.gb, h.by'⟩
theorem PlG.begin {l0 h0 l1 h1 : Nat} {v0 v1 : Value} {q : Nat → Off} (hB : B ≤ W.heap.size) (fs : W.heap[fsb]? = some (.cells (c3 (t3 v0 v1 (.pointer none))) 24)) (bk : W.heap[bkb]? = some (.cells (c3 fun _ => .slice none 0 0) 36)) (f0 : Flr W l0 h0 v0 q 0) (f1 : Flr W l1 h1 v1 q 0)
    (e1 : B ≤ l0) (e2 : h0 ≤ l1) (e3 : h1 ≤ W.heap.size) (e4 : B ≤ l1) (e5 : h0 ≤ W.heap.size) (g1 : B ≤ fsb) (g2 : B ≤ bkb) : PlG W B fsb bkb (t3 l0 l1 W.heap.size) (t3 h0 h1 W.heap.size) (t3 v0 v1 (.pointer none)) (fun _ => .slice none 0 0) (fun _ => .slice none 0 0) (fun _ => q) (fun _ => 0) (fun _ => 0) := by
  refine ⟨fs, bk, fun j hj => ?_, fun x y hx hy hxy => ?_, fun j hj => ?_, ⟨fun t _ => ⟨rfl, Or.inl ⟨rfl, rfl⟩⟩, fun x y hx hy hxy b hb => by cases hb⟩, ⟨g1, g2, fun j hj => ?_⟩, fun j hj i hi => absurd hi (Nat.not_lt_zero i)⟩
  · match j, hj with
    | 0, _ => exact f0
    | 1, _ => exact f1
    | 2, _ => exact Or.inl ⟨rfl, rfl⟩
  · match x, y, hx, hy with
    | 0, 0, _, _ => exact absurd rfl hxy
    | 0, 1, _, _ => exact Or.inl e2
    | 0, 2, _, _ => exact Or.inl e5
    | 1, 0, _, _ => exact Or.inr e2
    | 1, 1, _, _ => exact absurd rfl hxy
    | 1, 2, _, _ => exact Or.inl e3
    | 2, 0, _, _ => exact Or.inr e5
    | 2, 1, _, _ => exact Or.inr e3
    | 2, 2, _, _ => exact absurd rfl hxy
  · match j, hj with
    | 0, _ => exact e5
    | 1, _ => exact e3
    | 2, _ => exact Nat.le_refl _
  · match j, hj with
    | 0, _ => exact e1
    | 1, _ => exact e4
    | 2, _ => exact hB
theorem appB {V : World} {n : Nat} {u u' : Value} {xs : List Value} {t : TypeId} {s : Nat} (hb : Below V.heap.size V W) (own : W.ownsRow V.heap.size t s u n xs) (pl : (∃ b c, u = .slice (some ⟨b, 0, none⟩) n c ∧ u' = .slice (some ⟨b, 0, none⟩) (n + 1) c ∧ W.grownBy X (some b)) ∨ (Below W.heap.size W X ∧ ∀ q, u'.ownBlock = some q → W.heap.size ≤ q)) : Below V.heap.size V X := by
  rcases pl with ⟨b, c, e1, e2, gr⟩ | ⟨h, _⟩
  · exact hb.grown gr hb.size (fun k hk => by cases hk; exact (own.lt b (by rw [e1]; rfl)).1)
  · exact hb.trans (h.mono hb.size)
theorem own_sl {n : Nat} {u : Value} {xs : List Value} {t : TypeId} {s : Nat} (own : W.ownsRow B t s u n xs) : ∃ g n' c, u = .slice g n' c := by
  rcases own.2 with ⟨e, _⟩ | ⟨g, cap, cur, e, _⟩
  · exact ⟨_, _, _, e⟩
  · exact ⟨_, _, _, e⟩
end
theorem infoO : ∃ i, Try.prog.info? 38 = some i ∧ i.zero = some (.agg (ofA (fun _ => 0) 0)) ∧ i.size = 17 ∧ i.bytes = 24 := by
  have h : (Try.prog.info? 38).map (fun i => (i.zero, i.size, i.bytes)) = some (some (.agg (ofA (fun _ => 0) 0)), 17, 24) := by kernel_rfl
  obtain ⟨i, h1, h2⟩ := Option.map_eq_some_iff.1 h
  simp only [Prod.mk.injEq] at h2
  exact ⟨i, h1, h2.1, h2.2.1, h2.2.2⟩
/-- append of one offer. -/
theorem stepAppO {ops : Array Oper} {Q : Exit → Act → World → Prop} {K : Act → World → Prop} {j : Nat} {o : Oper} {a : Act} {W : World} {s x : Operand} {B n g : Nat} {v : Value} {q : Nat → Off} {f : Nat → Nat} {z : Int} (hos : ops[j]? = some o) (hgd : Region.wanted o (yielded ops a.tmps) = true)
    (ho : o.op = .call { callee := .builtin .append, args := #[s, x], argTypes := #[36, 36] }) (hs : a.eval s = v) (hx : a.eval x = .slice (some ⟨g, 0, none⟩) 1 1) (own : W.ownsRow B 38 17 v n (ofL q n)) (src : W.heap[g]? = some (.cells (ofA f z) 38)) (e : q n = (f, z)) (hn : (n + 1) * 24 ≤ 140737488355328) (hB : B ≤ W.heap.size)
    (hK : ∀ v' W', W'.ownsRow B 38 17 v' (n + 1) (ofL q (n + 1)) → ((∃ b c, v = .slice (some ⟨b, 0, none⟩) n c ∧ v' = .slice (some ⟨b, 0, none⟩) (n + 1) c ∧ W.grownBy W' (some b)) ∨ (Below W.heap.size W W' ∧ ∀ k, v'.ownBlock = some k → W.heap.size ≤ k)) → K (a.put o.dst v') W') : wpOp Try.prog ops Q j K a W := by
  obtain ⟨i, i1, i2, i3, i4⟩ := infoO
  obtain ⟨v', w', hr, r1, r2⟩ := run_appG W 36 o.type 38 i (.agg (ofA (fun _ => 0) 0)) 17 24 Try.underlying36 i1 i2 i3 i4 (by simp [Value.cells, ofA_size]) (by decide) B n 1 v (ofL q n) (ofA f z).toList own ⟨g, 0, none⟩ 1 (by rw [Array.length_toList, ofA_size]) (fun j u hu => by
      rw [Go.WideShapes.add_plain, Nat.zero_add]
      exact cell_lk0 src (by rw [← Array.getElem?_toList]; exact hu)) (fun u hu => (Array.all_eq_true_iff_forall_mem.1 (ofA_one f z)) u (by simpa using hu)) (by omega) hn (by omega) hB
  have e2 : ofL q n ++ (ofA f z).toList = ofL q (n + 1) := by
    show _ = ofL q n ++ (bytesL 16 (q n).1 ++ [.int .i64 (q n).2])
    rw [e]
    rfl
  rw [e2] at r1
  refine stepV hos hgd (v := v') (w' := w') ?_ (hK v' w' r1 r2)
  unfold execOp
  simp only [ho, resolve, invoke, builtin, Sem.run_bind, Sem.run_pure, Result.andThen_ok, List.map_toArray, List.map_cons, List.map_nil, hs, hx, hr]
theorem pnewA (V : World) : Calls Try.prog 9 #[.int .i64 4] V fun e w' => (∃ fb lo hi, e = .returned (.tuple #[.pointer (some ⟨fb, 0, none⟩), .int .i64 ((0 : Nat) : Int)]) ∧ V.heap.size ≤ lo ∧ Flr w' lo hi (.pointer (some ⟨fb, 0, none⟩)) oA 0) ∧ Below V.heap.size V w' :=
  (pnew17t 4 oA V (by omega) (by omega)).mono fun _ _ ⟨⟨fb, h1, h2⟩, h3⟩ => ⟨⟨fb, _, _, h1, Nat.le_refl _, h2⟩, h3⟩
set_option maxRecDepth 100000 in
set_option maxHeartbeats 4000000 in
/-- The laws' awake. -/
theorem awake17 (V : World) :
    Calls Try.prog 8 #[] V fun e w' => e = .returned (.bool true) ∧ Below V.heap.size V w' := by
  go_enter Try.func8, Try.ntmps8
  refine wo_ 42 [] ?_
  rintro a A -
  have BW : Below V.heap.size V V := Below.refl _ _
  have BB : Below V.heap.size V V := Below.refl _ _
  refine wp_seq ?_
  refine wi_ A h0_ (rg_ [] ?_)
  rintro a A -
  refine wp_seq ?_
  refine wi_ A h0_ (rc_ 0 (pnewA V) fun e X1 hh => ?_)
  obtain ⟨⟨fb, l0, h0, he, hl, hk⟩, hb⟩ := hh
  refine ⟨_, he, ?_⟩
  have bQ : Below V.heap.size V X1 := hb
  have FA0 : (Flr X1 l0 h0 (.pointer (some ⟨fb, 0, none⟩)) oA 0) := hk
  have FAl : (V.heap.size ≤ l0) := Nat.le_trans (BB).size hl
  replace BB := BB.trans (bQ.mono BB.size)
  clear bQ
  refine rg_ [(1, .pointer (some ⟨fb, 0, none⟩)), (2, .int .i64 ((0 : Nat) : Int))] ?_
  rintro a A ⟨t1, t2, -⟩
  refine wp_seq ?_
  refine wp_seq ?_
  refine wi_ A (h2_ t1 t2) (rv_ 1 (.bool false) (fun a ee => execEr0 rfl (ee _)) (rv_ 4 (.bool false) (fun a ee => execPeqls rfl (ee _)) (rf_ [(15, .bool false)] (h1_ t1) ?_)))
  rintro a A ⟨t15, -⟩ ⟨t1, -⟩
  refine wp_cond_false t15 ?_
  refine wp_skip ?_
  clear t15
  refine wp_seq ?_
  obtain ⟨g3, egg3⟩ : ∃ z_ : Nat, X1.heap.size = z_ := ⟨_, rfl⟩
  refine wi_ A (h1_ t1) (rv_ 0 (.agg (bA 16 f7)) (fun a ee => execB7 rfl) (rs_ 1 (fun a ee => ?_)))
  refine stepV rfl rfl (execAl16b rfl) ⟨.pointer (some ⟨g3, 0, none⟩), ⟨_, rfl, by subst egg3; rfl⟩, fun X4_1 hX => ?_⟩
  have bQ : Below X1.heap.size X1 X4_1 := by subst hX egg3; exact (belNew X1 _)
  have Fg3 : (X4_1.heap[g3]? = some (.cells (bA 16 fun _ => 0) 31)) := by subst hX egg3; exact heapNew X1 _
  have FGt : (V.heap.size ≤ g3) := by subst hX egg3; exact (BB).size
  replace FA0 := (FA0.on bQ)
  replace BB := BB.trans (bQ.mono BB.size)
  clear bQ hX egg3 ee a
  refine rs_ 2 (fun a ee => ?_)
  refine stepS rfl rfl (execSt16b rfl (ee _) (ee _) Fg3) ⟨_, ⟨_, rfl, rfl⟩, fun X4 hX => ?_⟩
  obtain ⟨BB, FA0, Ft⟩ : Below V.heap.size V X4 ∧ (Flr X4 l0 h0 (.pointer (some ⟨fb, 0, none⟩)) oA 0) ∧ (X4.heap[g3]? = some (.cells (bA 16 f7) 31)) := by subst hX; exact ⟨below4 BB FGt _, (Flr.offT FA0 Fg3 (by decide) (by decide) grR), setRow_heap _ _ _ _ _ _ Fg3⟩
  clear Fg3 hX ee a
  refine rf_ [(3, .pointer (some ⟨g3, 0, none⟩))] (h1_ t1) ?_
  rintro a A ⟨t3, -⟩ ⟨t1, -⟩
  refine wp_seq ?_
  refine wi_ A (h2_ t1 t3) (rv_ 1 (.agg (bA 16 f7)) (fun a ee => execLdT rfl (ee _) (fun j_ hj_ => at16 (Ft) hj_)) (rc_ 2 (poff18 l0 h0 (.pointer (some ⟨fb, 0, none⟩)) oA 0 f7 7 X4 FA0 rfl f7_lt (by simp)) fun e X5 hh => ?_))
  obtain ⟨he, h1, h3⟩ := hh
  refine ⟨_, he, ?_⟩
  obtain ⟨BB, FA1, Ft2⟩ : Below V.heap.size V X5 ∧ (Flr X5 l0 h0 (.pointer (some ⟨fb, 0, none⟩)) oA 1) ∧ (X5.heap[g3]? = some (.cells (bA 16 f7) 31)) := ⟨offB BB FAl h3 rfl, h1, off_keep h3 Ft⟩
  clear FA0 Ft
  refine rf_ [] (h2_ t1 t3) ?_
  rintro a A - ⟨t1, t3, -⟩
  have Ft := Ft2
  clear Ft2
  refine wp_seq ?_
  refine wi_ A (h2_ t1 t3) (rv_ 1 (.agg (bA 16 f7)) (fun a ee => execLdT rfl (ee _) (fun j_ hj_ => at16 (Ft) hj_)) (rc_ 2 (poff18 l0 h0 (.pointer (some ⟨fb, 0, none⟩)) oA 1 f7 3 X5 FA1 rfl f7_lt (by simp)) fun e X6 hh => ?_))
  obtain ⟨he, h1, h3⟩ := hh
  refine ⟨_, he, ?_⟩
  obtain ⟨BB, FA2, Ft2⟩ : Below V.heap.size V X6 ∧ (Flr X6 l0 h0 (.pointer (some ⟨fb, 0, none⟩)) oA 2) ∧ (X6.heap[g3]? = some (.cells (bA 16 f7) 31)) := ⟨offB BB FAl h3 rfl, h1, off_keep h3 Ft⟩
  clear FA1 Ft
  refine rf_ [] (h2_ t1 t3) ?_
  rintro a A - ⟨t1, t3, -⟩
  have Ft := Ft2
  clear Ft2
  refine wp_seq ?_
  refine wi_ A (h2_ t1 t3) (rv_ 1 (.agg (bA 16 f7)) (fun a ee => execLdT rfl (ee _) (fun j_ hj_ => at16 (Ft) hj_)) (rc_ 2 (poff18 l0 h0 (.pointer (some ⟨fb, 0, none⟩)) oA 2 f7 5 X6 FA2 rfl f7_lt (by simp)) fun e X7 hh => ?_))
  obtain ⟨he, h1, h3⟩ := hh
  refine ⟨_, he, ?_⟩
  obtain ⟨BB, FA3, Ft2⟩ : Below V.heap.size V X7 ∧ (Flr X7 l0 h0 (.pointer (some ⟨fb, 0, none⟩)) oA 3) ∧ (X7.heap[g3]? = some (.cells (bA 16 f7) 31)) := ⟨offB BB FAl h3 rfl, h1, off_keep h3 Ft⟩
  clear FA2 Ft
  refine rf_ [] (h2_ t1 t3) ?_
  rintro a A - ⟨t1, t3, -⟩
  have Ft := Ft2
  clear Ft2
  refine wp_seq ?_
  refine wi_ A (h2_ t1 t3) (rv_ 1 (.agg (bA 16 f7)) (fun a ee => execLdT rfl (ee _) (fun j_ hj_ => at16 (Ft) hj_)) (rc_ 2 (plow18 l0 h0 (.pointer (some ⟨fb, 0, none⟩)) oA 3 f7 3 X7 FA3 f7_lt oA_low) (cb_ fun X8 bQ => ?_)))
  replace FA3 := (FA3.on bQ)
  replace Ft := (on9 Ft bQ)
  replace BB := BB.trans (bQ.mono BB.size)
  clear bQ
  refine rf_ [(4, .int .i64 3), (5, .bool true)] (h1_ t1) ?_
  rintro a A ⟨t4, t5, -⟩ ⟨t1, -⟩
  refine wp_seq ?_
  refine wi_ A (h3_ t1 t4 t5) (rv_ 3 (.bool true) (fun a ee => execDec (exIeql3 (p := 3) (q := 3) rfl (ee _) rfl) (decide_eq_true (by decide))) (rc_ 7 (plenA l0 h0 (.pointer (some ⟨fb, 0, none⟩)) X8 FA3) (cb_ fun X9 bQ => ?_)))
  replace FA3 := (FA3.on bQ)
  replace Ft := (on9 Ft bQ)
  replace BB := BB.trans (bQ.mono BB.size)
  clear bQ
  refine rv_ 8 (.bool true) (fun a ee => execDec (exIeql3 (p := ((1 : Nat) : Int)) (q := 1) rfl (ee _) rfl) (decide_eq_true (by decide))) (rg_ [(0, .bool true)] ?_)
  rintro a A ⟨t0, -⟩
  refine wp_ret ?_
  refine bodyPost_ret (results_tmp rfl _ _ _) A.2 ⟨?_, BB⟩
  show Ending.returned (a.eval (.tmp 0)) = _
  rw [t0]
end Go.Proofs.Ytjoffdaknacbpaa.Sha
