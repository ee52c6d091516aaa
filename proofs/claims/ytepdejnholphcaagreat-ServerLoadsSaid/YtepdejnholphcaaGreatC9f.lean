import Derived.Test.YtepdejnholphcaaGreatC9d
namespace Go.Proofs.YtepdejnholphcaaGreat.Win
open Go.RowKit Gf8 Aes By8 Cel Cf
/- Rows of tags; the reference's all. Written by tools/mkC9f.py. -/

/-- The cells of a row of tags. -/
def tgV (t : Nat → Nat → Nat) : Nat → List Value
  | 0 => []
  | n + 1 => tgV t n ++ bytesL 16 (t n)
theorem tgV_len (t : Nat → Nat → Nat) : ∀ n, (tgV t n).length = n * 16
  | 0 => rfl
  | n + 1 => by rw [tgV, List.length_append, tgV_len t n, bytesL_len]; omega
theorem tgV_cg {t s : Nat → Nat → Nat} : ∀ n, (∀ j, j < n → t j = s j) → tgV t n = tgV s n
  | 0, _ => rfl
  | n + 1, h => by rw [tgV, tgV, tgV_cg n (fun j hj => h j (by omega)), h n (by omega)]
theorem tgV_at (t : Nat → Nat → Nat) : ∀ n j i, j < n → i < 16 → (tgV t n)[j * 16 + i]? = some (.int .u8 ((t j i : Nat) : Int))
  | 0, _, _, h, _ => by omega
  | n + 1, j, i, h, hi => by
    rw [tgV]
    by_cases q : j < n
    · rw [List.getElem?_append_left (by rw [tgV_len]; omega)]
      exact tgV_at t n j i q hi
    · obtain rfl : j = n := by omega
      rw [List.getElem?_append_right (by rw [tgV_len]; omega), tgV_len, Nat.add_sub_cancel_left]
      exact bytesL_at 16 _ hi
/-- One behind the other. -/
def catT (n : Nat) (t s : Nat → Nat → Nat) (k : Nat) : Nat → Nat := if k < n then t k else s (k - n)
theorem cat_lo {n k : Nat} {t s : Nat → Nat → Nat} (h : k < n) : catT n t s k = t k := if_pos h
theorem cat_hi {n k : Nat} {t s : Nat → Nat → Nat} : catT n t s (n + k) = s k := by
  unfold catT
  rw [if_neg (by omega), Nat.add_sub_cancel_left]
theorem tgV_cat {n : Nat} {t s : Nat → Nat → Nat} : ∀ m, tgV t n ++ tgV s m = tgV (catT n t s) (n + m)
  | 0 => by
    rw [tgV, List.append_nil, Nat.add_zero]
    exact tgV_cg n fun j hj => (cat_lo hj).symm
  | m + 1 => by rw [tgV, ← List.append_assoc, tgV_cat m, ← Nat.add_assoc, tgV, cat_hi]
theorem tgL_cat {n m : Nat} {t s : Nat → Nat → Nat} : tgL (n + m) (catT n t s) = tgL n t ++ tgL m s := by
  unfold tgL
  rw [List.range_add, List.map_append, List.map_map]
  have e1 : (List.range n).map (fun k => tv (catT n t s k) 16) = (List.range n).map (fun k => tv (t k) 16) := List.map_congr_left fun k hk => by rw [cat_lo (List.mem_range.1 hk)]
  have e2 : (List.range m).map ((fun k => tv (catT n t s k) 16) ∘ fun x => n + x) = (List.range m).map (fun k => tv (s k) 16) := List.map_congr_left fun k _ => by
    have e : catT n t s (n + k) = s k := cat_hi
    rw [Function.comp_apply, e]
  rw [e1, e2]
theorem cat_byt {n m : Nat} {t s : Nat → Nat → Nat} (ht : ∀ j, j < n → ∀ i, i < 16 → t j i < 256) (hs : ∀ j, j < m → ∀ i, i < 16 → s j i < 256) : ∀ j, j < n + m → ∀ i, i < 16 → catT n t s j i < 256 := fun j hj i hi => by
  unfold catT
  by_cases q : j < n
  · rw [if_pos q]; exact ht j q i hi
  · rw [if_neg q]; exact hs _ (by omega) i hi
theorem tgV_one (t : Nat → Nat → Nat) (n : Nat) : ∀ u ∈ tgV t n, u.oneCell' = true := by
  induction n with
  | zero => intro u hu; cases hu
  | succ n ih =>
    intro u hu
    rw [tgV, List.mem_append] at hu
    rcases hu with h | h
    · exact ih u h
    · exact bytesL_one _ _ u h
section
variable {W W' : World} {B n : Nat} {v : Value} {t : Nat → Nat → Nat}
theorem own_below {s : Nat} {ty : TypeId} {xs : List Value} (h : W.ownsRow B ty s v n xs) (hb : Below W.heap.size W W') : W'.ownsRow B ty s v n xs := by
  refine ⟨h.1, ?_⟩
  rcases h.2 with h2 | ⟨g, cap, cur, e1, hB, hg, hr⟩
  · exact Or.inl h2
  · exact Or.inr ⟨g, cap, cur, e1, hB, on9 hg hb, hr⟩
theorem own_tgs (h : W.ownsRow B 66 16 v n (tgV t n)) (hb : ∀ j, j < n → ∀ i, i < 16 → t j i < 256) : Tgs W v n t := by
  rcases h.2 with ⟨rfl, rfl⟩ | ⟨g, cap, cur, rfl, _, hg, q1, q2, q3, q4⟩
  · exact ⟨⟨none, 0, rfl, Nat.le_refl _, by omega, fun h => absurd h (Nat.lt_irrefl _)⟩, hb, fun l c e => by injection e with _ _ e3; exact e3.symm⟩
  · have hm : maxLen < 9223372036854775808 := by decide
    refine ⟨⟨_, _, rfl, q1, by omega, fun _ => ⟨g, 0, rfl, (Array.getElem?_eq_some_iff.1 hg).1, fun j hj i hi => ?_⟩⟩, hb, fun l c e => by cases e⟩
    rw [cell_of_row _ _ _ _ _ _ hg, Nat.zero_add, ← Array.getElem?_toList]
    have h5 : (cur.toList.take (n * 16))[j * 16 + i]? = some (.int .u8 ((t j i : Nat) : Int)) := by rw [q4]; exact tgV_at t n j i hj hi
    rw [List.getElem?_take_of_lt (by omega)] at h5
    exact h5
end
theorem info16 : ∃ i, Tryz.prog.info? 66 = some i ∧ i.zero = some (.agg (bA 16 fun _ => 0)) ∧ i.size = 16 ∧ i.bytes = 16 := by
  have h : (Tryz.prog.info? 66).map (fun i => (i.zero, i.size, i.bytes)) = some (some (.agg (bA 16 fun _ => 0)), 16, 16) := by kernel_rfl
  obtain ⟨i, h1, h2⟩ := Option.map_eq_some_iff.1 h
  simp only [Prod.mk.injEq] at h2
  exact ⟨i, h1, h2.1, h2.2.1, h2.2.2⟩
/-- append of a list of tags. -/
theorem stepAppT {ops : Array Oper} {Q : Exit → Act → World → Prop} {K : Act → World → Prop} {j : Nat} {o : Oper} {a : Act} {W : World} {s x : Operand} {B n m : Nat} {v u : Value} {t p : Nat → Nat → Nat} (hos : ops[j]? = some o) (hgd : Region.wanted o (yielded ops a.tmps) = true)
    (ho : o.op = .call { callee := .builtin .append, args := #[s, x], argTypes := #[55, 55] }) (hs : a.eval s = v) (hx : a.eval x = u) (own : W.ownsRow B 66 16 v n (tgV t n)) (src : Tgs W u m p) (hn : (n + m) * 16 ≤ 140737488355328) (hB : B ≤ W.heap.size)
    (hK : ∀ v' W', W'.ownsRow B 66 16 v' (n + m) (tgV (catT n t p) (n + m)) → W.grownBy W' v.ownBlock → K (a.put o.dst v') W') : wpOp Tryz.prog ops Q j K a W := by
  obtain ⟨i, i1, i2, i3, i4⟩ := info16
  obtain ⟨⟨ao, cap, rfl, q1, q2, q3⟩, hb, hz⟩ := src
  cases ao with
  | none =>
    have hm : m = 0 := by
      rcases Nat.eq_zero_or_pos m with e | e
      · exact e
      · obtain ⟨_, _, e', _⟩ := q3 e
        cases e'
    subst hm
    have hcap := hz _ _ rfl
    subst hcap
    have hr := run_append_owned_none (P := Tryz.prog) W B 55 o.type 66 i 16 Tryz.underlying55 i1 v n (tgV t n) own
    refine stepV hos hgd (v := v) (w' := W) ?_ (hK v W (by rw [← tgV_cat 0]; simpa [tgV] using own) ⟨rfl, rfl, rfl, Nat.le_refl _, fun _ _ _ => rfl⟩)
    unfold execOp
    simp only [ho, resolve, invoke, builtin, Sem.run_bind, Sem.run_pure, Result.andThen_ok, List.map_toArray, List.map_cons, List.map_nil, hs, hx, hr]
  | some ad =>
    obtain ⟨v', w', hr, r1, r2, _⟩ := run_append_own (P := Tryz.prog) W B 55 o.type 66 i (.agg (bA 16 fun _ => 0)) 16 16 Tryz.underlying55 i1 i2 i3 i4 (by simp [Value.cells, bA_size]) (by decide) v n (tgV t n) own ad m cap (tgV p m) (tgV_len p m) (fun j z hzz => by
      have hj : j < m * 16 := by have := (List.getElem?_eq_some_iff.1 hzz).1; rw [tgV_len] at this; exact this
      obtain ⟨b, off, e, _, e3⟩ := q3 (by omega)
      obtain rfl : ad = ⟨b, off, none⟩ := Option.some.inj e
      have h1 := e3 (j / 16) (by omega) (j % 16) (by omega)
      have h2 := tgV_at p m (j / 16) (j % 16) (by omega) (by omega)
      rw [show j / 16 * 16 + j % 16 = j by omega] at h2
      rw [show off + j / 16 * 16 + j % 16 = off + j by omega] at h1
      rw [Go.WideShapes.add_plain, h1, ← h2]
      exact hzz) (tgV_one p m) (by unfold maxLen; omega) (by omega) hB
    rw [tgV_cat] at r1
    refine stepV hos hgd (v := v') (w' := w') ?_ (hK v' w' r1 r2)
    unfold execOp
    simp only [ho, resolve, invoke, builtin, Sem.run_bind, Sem.run_pure, Result.andThen_ok, List.map_toArray, List.map_cons, List.map_nil, hs, hx, hr]
theorem own_none16 (W : World) (B : Nat) (t : Nat → Nat → Nat) : W.ownsRow B 66 16 (.slice none 0 0) 0 (tgV t 0) := ⟨rfl, Or.inl ⟨rfl, rfl⟩⟩
/-- All tags, epoch by epoch. -/
def alN (ln : Nat → Nat) : Nat → Nat
  | 0 => 0
  | i + 1 => alN ln i + ln i
def alT (ln : Nat → Nat) (t : Nat → Nat → Nat → Nat) : Nat → Nat → Nat → Nat
  | 0 => fun _ _ => 0
  | i + 1 => catT (alN ln i) (alT ln t i) (t i)
theorem al_list {nu : Nat → Int} {ln : Nat → Nat} {t : Nat → Nat → Nat → Nat} : ∀ i, tgL (alN ln i) (alT ln t i) = wAll (esL i nu ln t)
  | 0 => rfl
  | i + 1 => by
    rw [alN, alT, tgL_cat, al_list i (nu := nu), esL_succ]
    unfold wAll
    rw [List.flatMap_append]
    simp
theorem al_len {nu : Nat → Int} {ln : Nat → Nat} {t : Nat → Nat → Nat → Nat} (i : Nat) : wLen (esL i nu ln t) = alN ln i := by
  unfold wLen
  rw [← al_list i, len_tgL]
theorem al_byt {ln : Nat → Nat} {t : Nat → Nat → Nat → Nat} : ∀ n, (∀ j, j < n → ∀ k, k < ln j → ∀ i, i < 16 → t j k i < 256) → ∀ k, k < alN ln n → ∀ i, i < 16 → alT ln t n k i < 256
  | 0, _ => fun k hk => absurd hk (Nat.not_lt_zero k)
  | n + 1, h => cat_byt (al_byt n fun j hj => h j (by omega)) (h n (by omega))
theorem al_mono {ln : Nat → Nat} : ∀ {i n : Nat}, i ≤ n → alN ln i ≤ alN ln n := fun {i n} h => by
  induction n with
  | zero => obtain rfl : i = 0 := by omega
            exact Nat.le_refl _
  | succ n ih =>
    by_cases q : i = n + 1
    · subst q; exact Nat.le_refl _
    · have := ih (by omega)
      show alN ln i ≤ alN ln n + ln n
      omega
set_option maxRecDepth 100000 in
set_option maxHeartbeats 4000000 in
/-- The reference's all. -/
theorem rall16 (nw : Int) (ev : Value) (n : Nat) (nu : Nat → Int) (tw : Nat → Value) (ln : Nat → Nat) (t : Nat → Nat → Nat → Nat) (V : World) (hE : Eps V ev n nu tw ln t) (hn : n < 9223372036854775808) (hs : alN ln n * 16 ≤ 140737488355328) :
    Calls Tryz.prog 28 #[.agg (wC nw ev)] V fun e w' => ∃ r, e = .returned r ∧ w'.ownsRow V.heap.size 66 16 r (alN ln n) (tgV (alT ln t n) (alN ln n)) ∧ Below V.heap.size V w' := by
  go_enter Tryz.func28, Tryz.ntmps28
  refine wo_ 21 [(0, .agg (wC nw ev))] ?_
  rintro a A ⟨t0, -⟩
  have BW : Below V.heap.size V V := Below.refl _ _
  refine wp_seq ?_
  obtain ⟨g1, egg1⟩ : ∃ z_ : Nat, V.heap.size = z_ := ⟨_, rfl⟩
  refine wi_ A (h1_ t0) (rs_ 0 (fun a ee => ?_))
  refine stepV rfl rfl (execBoxW rfl (ee _)) ⟨.pointer (some ⟨g1, 0, none⟩), ⟨_, rfl, by subst egg1; rfl⟩, fun X0 hX => ?_⟩
  have bQ : Below V.heap.size V X0 := by subst hX egg1; exact (belNew V _)
  have Fg1 : (X0.heap[g1]? = some (.cells (wC nw ev) 27)) := by subst hX egg1; exact heapNew V _
  have bX := bQ
  clear bQ hX egg1 ee a
  refine rg_ [(1, .pointer (some ⟨g1, 0, none⟩))] ?_
  rintro a A ⟨t1, -⟩
  replace hE := (hE.on bX)
  have ZX0 := bX.size
  replace BW := BW.trans (bX.mono BW.size)
  clear bX
  have BB : Below X0.heap.size X0 X0 := Below.refl _ _
  refine wp_seq ?_
  refine wi_ A (h1_ t1) (rf_ [(3, .slice none 0 0)] (h1_ t1) ?_)
  rintro a A ⟨t3, -⟩ ⟨t1, -⟩
  refine wp_seq ?_
  refine wp_seq ?_
  refine wi_ A (h2_ t1 t3) (rf_ [(4, .int .i64 ((0 : Nat) : Int))] (h2_ t1 t3) ?_)
  rintro a A ⟨t4, -⟩ ⟨t1, t3, -⟩
  have FR : (X0.ownsRow X0.heap.size 66 16 (.slice none 0 0) (alN ln 0) (tgV (alT ln t 0) (alN ln 0))) := own_none16 _ _ _
  refine wp_block ?_
  refine wp_loop (fun a W => ∃ (i : Nat) (v : Value), i ≤ n ∧ (a.tmps.size = 21 ∧ a.defers = []) ∧ a.eval (.tmp 1) = .pointer (some ⟨g1, 0, none⟩) ∧ a.eval (.tmp 3) = v ∧ a.eval (.tmp 4) = .int .i64 ((i : Nat) : Int) ∧ Below X0.heap.size X0 W ∧ (W.ownsRow X0.heap.size 66 16 v (alN ln i) (tgV (alT ln t i) (alN ln i)))) (fun a _ => n - (intOf (a.eval (.tmp 4))).toNat) ⟨0, .slice none 0 0, Nat.zero_le _, A, t1, t3, t4, BB, FR⟩ ?_
  clear A t1 t3 t4 BB FR a
  rintro a XL ⟨i, v, hi, A, t1, t3, t4, BB, FR⟩
  have es := t4
  refine wp_seq ?_
  refine wp_seq ?_
  refine wi_ A (h3_ t1 t3 t4) (rv_ 1 (.pointer (some ⟨g1, 1, none⟩)) (fun a ee => execFldW1 rfl (ee _)) (rv_ 2 (ev) (fun a ee => execLdEs rfl (ee _) (wC_1 (on9 Fg1 BB))) (rv_ 3 (.int .i64 ((n : Nat) : Int)) (fun a ee => execLenEs (len := n) rfl (ee _) hE.shp) (rv_ 4 (.bool (decide (i < n))) (fun a ee => execLtW (p := i) (q := n) rfl (ee _) (ee _)) (rf_ [(9, .bool (decide (i < n)))] (h3_ t1 t3 t4) ?_)))))
  rintro a A ⟨t9, -⟩ ⟨t1, t3, t4, -⟩
  by_cases lti : i < n
  · rw [decide_eq_true lti] at t9
    refine wp_cond_true t9 ?_
    refine wp_skip ?_
    clear t9
    obtain ⟨eb, eo, ec, ee_, heb, hec⟩ := hE.at (show 0 < n by omega)
    have cE : ∀ X, Below X0.heap.size X0 X → X.cell? ⟨eb, eo + i * 2 + 1, none⟩ = some (tw i) := fun X hX => by rw [cell_below hX heb]; exact (hec i lti).2
    have hT := hE.lists i lti
    have hsm : alN ln (i + 1) ≤ alN ln n := al_mono lti
    have hsm2 : alN ln i + ln i ≤ alN ln n := hsm
    refine wp_seq ?_
    refine wp_block ?_
    refine wi_ A (h3_ t1 t3 t4) (rv_ 1 (.pointer (some ⟨g1, 1, none⟩)) (fun a ee => execFldW1 rfl (ee _)) (rv_ 2 (ev) (fun a ee => execLdEs rfl (ee _) (wC_1 (on9 Fg1 BB))) (rv_ 4 (.pointer (some ⟨eb, eo + i * 2, none⟩)) (fun a ee => execIdxEs (k := i) rfl ((ee _).trans ee_) (ee _) lti) (rv_ 5 (.pointer (some ⟨eb, eo + i * 2 + 1, none⟩)) (fun a ee => execFldE1 rfl (ee _)) (rv_ 6 (tw i) (fun a ee => execLdTs rfl (ee _) (cE XL BB)) (rs_ 7 (fun a ee => ?_)))))))
    refine stepAppT (n := alN ln i) (m := ln i) (t := alT ln t i) (p := t i) rfl rfl rfl (ee _) (ee _) FR (hT.on BB) (by omega) (BB).size fun v19 X5 own' gr => ⟨_, ⟨_, rfl, rfl⟩, eqw ?_⟩
    obtain ⟨BB, FR2⟩ : Below X0.heap.size X0 X5 ∧ (X5.ownsRow X0.heap.size 66 16 v19 (alN ln i + ln i) (tgV (catT (alN ln i) (alT ln t i) (t i)) (alN ln i + ln i))) := ⟨(BB).grown gr (BB).size (fun k hk => (FR.lt k hk).1), own'⟩
    clear FR ee a
    refine rf_ [(3, v19)] (h2_ t1 t4) ?_
    rintro a A ⟨t3, -⟩ ⟨t1, t4, -⟩
    refine wi_ A (h3_ t1 t3 t4) (rv_ 1 (.int .i64 ((i + 1 : Nat) : Int)) (fun a ee => execAd8 (p := i) (q := 1) rfl (ee _) rfl (by omega)) (rf_ [(4, .int .i64 ((i + 1 : Nat) : Int))] (h2_ t1 t3) ?_))
    rintro a A ⟨t4, -⟩ ⟨t1, t3, -⟩
    exact ⟨⟨i + 1, v19, lti, A, t1, t3, t4, BB, FR2⟩, by show n - (intOf (a.eval (.tmp 4))).toNat < n - (intOf (Act.eval _ (.tmp 4))).toNat; rw [t4, es]; show n - (i + 1) < n - i; omega⟩
  · rw [decide_eq_false lti] at t9
    refine wp_cond_false t9 ?_
    refine wp_exit ?_
    first | with_reducible refine exit_in ?_ | with_reducible refine exit_then (exit_in ?_) | with_reducible refine exit_then (exit_then (exit_in ?_)) | refine exit_in ?_ | refine exit_then (exit_in ?_) | refine exit_then (exit_then (exit_in ?_))
    clear t9 es
    obtain rfl : i = n := by omega
    refine wp_seq ?_
    refine wi_ A (h3_ t1 t3 t4) (rg_ [(2, v)] ?_)
    rintro a A ⟨t2, -⟩
    have BW2 := BW.trans (BB.mono BW.size)
    refine wp_ret ?_
    refine bodyPost_ret (results_tmp rfl _ _ _) A.2 ⟨v, ?_, ⟨FR.1, ?_⟩, BW2⟩
    · show Ending.returned (a.eval (.tmp 2)) = _
      rw [t2]
    · rcases FR.2 with h_ | ⟨g_, c_, u_, z1, z2, z3⟩
      · exact Or.inl h_
      · exact Or.inr ⟨g_, c_, u_, z1, Nat.le_trans BW.size z2, z3⟩
end Go.Proofs.YtepdejnholphcaaGreat.Win
