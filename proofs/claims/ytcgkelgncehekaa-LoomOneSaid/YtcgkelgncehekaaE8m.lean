import Derived.Test.YtcgkelgncehekaaE8l
namespace Go.Proofs.Ytcgkelgncehekaa.Loo
open Go.RowKit Gf8 Aes By8 Cel Cf Win Drw Prm
/- LoomOne. Written by tools/mkE8m.py. -/

def oneQ (v : Nat → Int) (j : Nat) : Op3 := if j % 2 = 0 then ⟨4, v (j / 2), 0⟩ else ⟨1, 0, 0⟩
def oneE (m : Nat) (v : Nat → Int) (j : Nat) : Op3 := if j = 2 * m then ⟨3, 0, 0⟩ else oneQ v j
def takO (j : Nat) : Op3 := if j = 0 then ⟨2, 0, 2⟩ else ⟨6, 0, 0⟩
theorem oneQ_two (v : Nat → Int) (i : Nat) : oneQ v (2 * i + 0) = ⟨4, v i, 0⟩ ∧ oneQ v (2 * i + 1) = ⟨1, 0, 0⟩ := by
  refine ⟨?_, ?_⟩
  · unfold oneQ
    rw [if_pos (by omega), show (2 * i + 0) / 2 = i by omega]
  · unfold oneQ
    rw [if_neg (by omega)]
theorem takO_fit : ∀ j, j < 2 → I64 (takO j).k ∧ I64 (takO j).a ∧ I64 (takO j).b := by decide
theorem oneE_fit {m : Nat} {v : Nat → Int} (hv : ∀ j, j < m → -1024 ≤ v j ∧ v j ≤ 1024) : ∀ j, j < 2 * m + 1 → I64 (oneE m v j).k ∧ I64 (oneE m v j).a ∧ I64 (oneE m v j).b := by
  intro j hj
  unfold oneE oneQ
  split
  · decide
  · split
    · have := hv (j / 2) (by omega)
      exact ⟨⟨by show _ ≤ (4 : Int); omega, by show (4 : Int) < _; omega⟩, ⟨by show _ ≤ v (j / 2); omega, by show v (j / 2) < _; omega⟩, ⟨by show _ ≤ (0 : Int); omega, by show (0 : Int) < _; omega⟩⟩
    · decide
theorem any_no {l : List Nat} {f : Nat → Bool} (h : ∀ i ∈ l, f i = false) : l.any f ≠ true := by
  rw [Ne, Bool.not_eq_true, List.any_eq_false]
  exact fun i hi => by rw [h i hi]; simp
theorem inB_of {x lo hi : Int} (h1 : lo ≤ x) (h2 : x ≤ hi) : inB x lo hi = true := decide_eq_true ⟨h1, h2⟩
/-- A plan is right, if all is within its bounds. -/
theorem chk_ok {p : Pl} (h1 : p.n ≤ 128) (h2 : p.d ≤ 64) (h3 : ∀ t, t < p.n → p.ln t ≤ 256) (h4 : ∀ i, i < p.d → 0 ≤ p.cap i ∧ p.cap i ≤ 1024) (h5 : ∀ t, t < p.n → ∀ j, j < p.ln t → rgt (p.op t j) (p.ln t) p.d p.n = true) : chk p = 0 := by
  unfold chk
  rw [if_neg (by omega), if_neg, if_neg, if_neg]
  · exact any_no fun t ht => by
      rw [List.any_eq_false]
      exact fun j hj => by rw [h5 t (List.mem_range.1 ht) j (List.mem_range.1 hj)]; simp
  · exact any_no fun i hi => by
      have := h4 i (List.mem_range.1 hi)
      rw [inB_of this.1 this.2]
      rfl
  · exact any_no fun t ht => decide_eq_false (by have := h3 t (List.mem_range.1 ht); omega)
theorem one_chk {m c : Nat} {v : Nat → Int} (hm : m ≤ 120) (hc : c ≤ 1024) (hv : ∀ j, j < m → -1024 ≤ v j ∧ v j ≤ 1024) : chk (oneP m v c) = 0 := by
  refine chk_ok (by show 2 ≤ 128; omega) (by show 1 ≤ 64; omega) (fun t _ => ?_) (fun i _ => ⟨by show 0 ≤ ((c : Nat) : Int); omega, by show ((c : Nat) : Int) ≤ 1024; omega⟩) (fun t ht j hj => ?_)
  · show (if t = 0 then 2 * m + 1 else 2) ≤ 256
    split <;> omega
  · have ht' : t < 2 := ht
    rcases (show t = 0 ∨ t = 1 by omega) with rfl | rfl
    · have hj' : j < 2 * m + 1 := hj
      show rgt (if j = 2 * m then ⟨3, 0, 0⟩ else if j % 2 = 0 then ⟨4, v (j / 2), 0⟩ else ⟨1, 0, 0⟩) _ 1 2 = true
      by_cases e : j = 2 * m
      · rw [if_pos e]; rfl
      · rw [if_neg e]
        by_cases e2 : j % 2 = 0
        · rw [if_pos e2]
          have := hv (j / 2) (by omega)
          show inB (v (j / 2)) (-1024) 1024 = true
          exact inB_of this.1 this.2
        · rw [if_neg e2]; rfl
    · have hj' : j < 2 := hj
      show rgt (if j = 0 then ⟨2, 0, 2⟩ else ⟨6, 0, 0⟩) 2 1 2 = true
      rcases (show j = 0 ∨ j = 1 by omega) with rfl | rfl <;> rfl
theorem one_pla {W : World} {B g48 g52 g53 m c : Nat} {pv : Value} {v : Nat → Int} (hc : c ≤ 1024) (hv : ∀ j, j < m → -1024 ≤ v j ∧ v j ≤ 1024) (h1 : W.heap[g48]? = some (.cells (iR 1 (fun _ => ((c : Nat) : Int))) 3)) (h2 : W.ownsRow B 35 3 pv (2 * m + 1) (opL (2 * m + 1) (oneE m v))) (h3 : W.heap[g52]? = some (.cells (oR 2 takO) 35)) (h4 : W.heap[g53]? = some (.cells (vR 2 (fun i => if i = 0 then pv else .slice (some ⟨g52, 0, none⟩) 2 2)) 36)) :
    PlA W (.agg #[.slice (some ⟨g48, 0, none⟩) 1 1, .slice (some ⟨g53, 0, none⟩) 2 2]) (oneP m v c) := by
  refine ⟨_, _, _, rfl, iR_slice h1 (by omega) (fun _ _ => ⟨by show _ ≤ ((c : Nat) : Int); omega, by show ((c : Nat) : Int) < _; omega⟩), vR_slice h4, fun t ht => ?_⟩
  have ht' : t < 2 := ht
  rcases (show t = 0 ∨ t = 1 by omega) with rfl | rfl
  · exact (own_ops h2 (oneE_fit hv)).cg fun j _ => rfl
  · exact (oR_slice h3 takO_fit).cg fun j _ => rfl
/-- What LoomOne asks of Play. -/
theorem one_play (I : LImpl) (pv sv : Value) (m c k : Nat) (v sc : Nat → Int) (V : World) (hm : m ≤ 120) (hc : c ≤ 1024) (hv : ∀ j, j < m → -1024 ≤ v j ∧ v j ≤ 1024) (hp : PlA V pv (oneP m v c)) (hs : SliceI V sv k sc) : Calls Try.prog 10 #[pv, sv] V fun e w' => ∃ pk tk tv M N, e = .returned (.tuple #[.agg (hC pk M true false 0 tk), .int .i64 ((0 : Nat) : Int)]) ∧ M ≤ c ∧ His V.heap.size w' pk tk tv N 2 (fun i => (Loo.pk (oneP m v c) (scr k sc) i : Int)) (fun t => if t = 0 then [] else (List.range m).map v) ∧ Below V.heap.size V w' := by
  refine Calls.mono (I.play (oneP m v c) pv sv k sc V hp hs) fun e w' ⟨⟨_, h⟩, hb⟩ => ?_
  obtain ⟨pk, tk, tv, N, hr, he, hh⟩ := h (one_chk hm hc hv)
  obtain ⟨e1, e2, e3, e4, e5, e6, -⟩ := one_run hm hr
  rw [e2, e3] at he
  refine ⟨pk, tk, tv, _, N, he, e4, ⟨⟨fun i hi => ?_, hh.fm.dis⟩, hh.tk, hh.pfit, fun t ht x hx => hh.tfit t ht x ?_⟩, hb⟩
  · have h1 := hh.fm.rows i hi
    match i, h1 with
    | 0, h1 => exact h1
    | 1, h1 =>
      have h1' : w'.ownsRow V.heap.size 3 1 (tv 0) ((rk (oneP m v c) (scr k sc) N).tk 0).length (intsL ((rk (oneP m v c) (scr k sc) N).tk 0).length (fun j => ((rk (oneP m v c) (scr k sc) N).tk 0).getD j 0)) := h1
      rw [e5] at h1'
      exact h1'
    | 2, h1 =>
      have h1' : w'.ownsRow V.heap.size 3 1 (tv 1) ((rk (oneP m v c) (scr k sc) N).tk 1).length (intsL ((rk (oneP m v c) (scr k sc) N).tk 1).length (fun j => ((rk (oneP m v c) (scr k sc) N).tk 1).getD j 0)) := h1
      rw [e6] at h1'
      exact h1'
    | i + 3, _ => exact absurd hi (by show ¬ i + 3 < 2 + 1; omega)
  · have ht' : t < 2 := ht
    rcases (show t = 0 ∨ t = 1 by omega) with rfl | rfl
    · cases hx
    · rw [e6]; exact hx
theorem map_getD {m : Nat} {v : Nat → Int} {j : Nat} (h : j < m) : ((List.range m).map v).getD j 0 = v j := by simp [h]
theorem ints_open {W : World} {v : Value} {n : Nat} {f : Nat → Int} (h : SliceI W v n f) (h0 : 0 < n) : ∃ b off c, v = .slice (some ⟨b, off, none⟩) n c ∧ b < W.heap.size ∧ ∀ j, j < n → W.cell? ⟨b, off + j, none⟩ = some (.int .i64 (f j)) := by
  obtain ⟨a, c, e, _, _, h3⟩ := h.shape
  obtain ⟨b, off, e1, e2, e3⟩ := h3 h0
  exact ⟨b, off, c, by rw [e, e1], e2, e3⟩
theorem lenM {B N m : Nat} {W : World} {pk tk : Value} {tv : Nat → Value} {pf : Nat → Int} {v : Nat → Int} (h : His B W pk tk tv N 2 pf (fun t => if t = 0 then [] else (List.range m).map v)) : SliceI W (tv 1) m (fun j => ((List.range m).map v).getD j 0) := by
  have h1 := h.taken (t := 1) (by omega)
  rw [show (if 1 = 0 then ([] : List Int) else (List.range m).map v) = (List.range m).map v from rfl] at h1
  have e : ((List.range m).map v).length = m := by simp
  rw [e] at h1
  exact h1
set_option maxRecDepth 100000 in
set_option maxHeartbeats 4000000 in
/-- LoomOne. -/
theorem one19 (I : LImpl) (v0 : Value) (K : Nat) (f : Nat → Int) (a1 : Int) (v2 : Value) (k2 : Nat) (sc : Nat → Int) (V : World) (hv0 : SliceI V v0 K f) (hv2 : SliceI V v2 k2 sc) :
    Calls Try.prog 8 #[v0, .int .i64 a1, v2] V fun e w' => e = .returned (.bool true) ∧ Below V.heap.size V w' := by
  obtain ⟨c, hc⟩ : ∃ c : Nat, abt a1 0 1024 = ((c : Nat) : Int) := ⟨(abt a1 0 1024).toNat, by have := abt_in (n := a1) (lo := 0) (hi := 1024) (by omega); omega⟩
  have hcc : c ≤ 1024 := by have := abt_in (n := a1) (lo := 0) (hi := 1024) (by omega); omega
  obtain ⟨m, hm⟩ : ∃ m, m = min K 120 := ⟨_, rfl⟩
  obtain ⟨v, hv⟩ : ∃ v : Nat → Int, v = fun j => abt (f j) (-1024) 1024 := ⟨_, rfl⟩
  have hvv : ∀ j, j < m → -1024 ≤ v j ∧ v j ≤ 1024 := fun j _ => by rw [hv]; exact abt_in (by omega)
  have hvf : ∀ j, j < m → -9223372036854775808 ≤ v j ∧ v j < 9223372036854775808 := fun j hj => by have := hvv j hj; omega
  go_enter Try.func8, Try.ntmps8
  refine wo_ 98 [(0, v0), (1, .int .i64 a1), (2, v2)] ?_
  rintro a A ⟨t0, t1, t2, -⟩
  have BW : Below V.heap.size V V := Below.refl _ _
  have BB : Below V.heap.size V V := Below.refl _ _
  refine wp_seq ?_
  refine wi_ A (h3_ t0 t1 t2) (rf_ [] (h3_ t0 t1 t2) ?_)
  rintro a A - ⟨t0, t1, t2, -⟩
  refine wp_seq ?_
  refine wp_seq ?_
  refine wi_ A (h3_ t0 t1 t2) (rc_ 0 (alive19 I V) (cb_ fun X1 bQ => ?_))
  replace BB := BB.trans (bQ.mono BB.size)
  clear bQ
  refine rv_ 1 (.bool false) (fun a ee => execNot8 (b := true) rfl (ee _)) (rf_ [(14, .bool false)] (h3_ t0 t1 t2) ?_)
  rintro a A ⟨t14, -⟩ ⟨t0, t1, t2, -⟩
  refine wp_cond_false t14 ?_
  refine wp_skip ?_
  clear t14
  refine wp_seq ?_
  refine wi_ A (h3_ t0 t1 t2) (rc_ 1 (about19 a1 0 1024 X1 (by omega) (by omega) (by omega)) (cb_ fun X3 bQ => ?_))
  replace BB := BB.trans (bQ.mono BB.size)
  clear bQ
  refine rf_ [(1, .int .i64 (abt a1 0 1024))] (h2_ t0 t2) ?_
  rintro a A ⟨t1, -⟩ ⟨t0, t2, -⟩
  rw [hc] at t1
  refine wp_seq ?_
  refine wi_ A (h3_ t0 t1 t2) (rf_ [(7, .slice none 0 0)] (h3_ t0 t1 t2) ?_)
  rintro a A ⟨t7, -⟩ ⟨t0, t1, t2, -⟩
  refine wp_seq ?_
  refine wi_ A (h4_ t0 t1 t2 t7) (rf_ [(8, .slice none 0 0)] (h4_ t0 t1 t2 t7) ?_)
  rintro a A ⟨t8, -⟩ ⟨t0, t1, t2, t7, -⟩
  refine wp_seq ?_
  refine wp_seq ?_
  refine wi_ A (h5_ t0 t1 t2 t7 t8) (rf_ [(9, .int .i64 ((0 : Nat) : Int))] (h5_ t0 t1 t2 t7 t8) ?_)
  rintro a A ⟨t9, -⟩ ⟨t0, t1, t2, t7, t8, -⟩
  have FO : X3.ownsRow V.heap.size 35 3 (.slice none 0 0) (2 * 0) (opL (2 * 0) (oneQ v)) := World.ownsRow_nil _ _ _ _
  have FW : X3.ownsRow V.heap.size 3 1 (.slice none 0 0) 0 (intsL 0 v) := World.ownsRow_nil _ _ _ _
  refine wp_block ?_
  refine wp_loop (fun a W => ∃ (i : Nat) (pv wv : Value), i ≤ m ∧ (a.tmps.size = 98 ∧ a.defers = []) ∧ a.eval (.tmp 0) = v0 ∧ a.eval (.tmp 1) = .int .i64 ((c : Nat) : Int) ∧ a.eval (.tmp 2) = v2 ∧ a.eval (.tmp 7) = pv ∧ a.eval (.tmp 8) = wv ∧ a.eval (.tmp 9) = .int .i64 ((i : Nat) : Int) ∧ Below V.heap.size V W ∧ W.ownsRow V.heap.size 35 3 pv (2 * i) (opL (2 * i) (oneQ v)) ∧ W.ownsRow V.heap.size 3 1 wv i (intsL i v)) (fun a _ => m - (intOf (a.eval (.tmp 9))).toNat) ⟨0, _, _, Nat.zero_le _, A, t0, t1, t2, t7, t8, t9, BB, FO, FW⟩ ?_
  clear A t0 t1 t2 t7 t8 t9 BB FO FW a
  rintro a XL ⟨i, pv, wv, hi, A, t0, t1, t2, t7, t8, t9, BB, FO, FW⟩
  have es := t9
  by_cases hlt : i < m
  · refine wp_seq ?_
    refine wp_seq ?_
    refine wi_ A (h6_ t0 t1 t2 t7 t8 t9) (rv_ 2 (.int .i64 ((K : Nat) : Int)) (fun a ee => execLenI (len := K) rfl (ee _) (hv0.shp)) (rv_ 3 (.bool true) (fun a ee => execDec (execLtW (p := i) (q := K) rfl (ee _) (ee _)) (decide_eq_true (by omega))) (rv_ 6 (.bool true) (fun a ee => execDec (execLtW (p := i) (q := 120) rfl (ee _) rfl) (decide_eq_true (by omega))) (rf_ [(24, .bool true)] (h6_ t0 t1 t2 t7 t8 t9) ?_))))
    rintro a A ⟨t24, -⟩ ⟨t0, t1, t2, t7, t8, t9, -⟩
    refine wp_cond_true t24 ?_
    refine wp_skip ?_
    clear t24
    obtain ⟨ib, io, ic, e0, hib, hcI⟩ := ints_open hv0 (show 0 < K by omega)
    have cI : ∀ X, Below V.heap.size V X → X.cell? ⟨ib, io + i, none⟩ = some (.int .i64 (f i)) := fun X hX => by rw [cell_below hX hib]; exact hcI i (by omega)
    refine wp_seq ?_
    refine wp_block ?_
    refine wp_seq ?_
    refine wi_ A (h6_ t0 t1 t2 t7 t8 t9) (rv_ 2 (.pointer (some ⟨ib, io + i, none⟩)) (fun a ee => execIdxN (k := i) rfl ((ee _).trans e0) (ee _) (by omega)) (rv_ 3 (.int .i64 (f i)) (fun a ee => execLdG rfl (Or.inr (Or.inl rfl)) (ee _) (cI XL BB)) (rc_ 4 (about19 (f i) (-1024) 1024 XL (by omega) (by omega) (by omega)) (cb_ fun X9 bQ => ?_))))
    replace FO := (ownD_below FO bQ)
    replace FW := (ownD_below FW bQ)
    replace BB := BB.trans (bQ.mono BB.size)
    clear bQ
    refine rf_ [(10, .int .i64 (abt (f i) (-1024) 1024))] (h6_ t0 t1 t2 t7 t8 t9) ?_
    rintro a A ⟨t10, -⟩ ⟨t0, t1, t2, t7, t8, t9, -⟩
    replace t10 : a.eval (.tmp 10) = .int .i64 (v i) := by rw [hv]; exact t10
    obtain ⟨q0, q1⟩ := oneQ_two v i
    refine wp_seq ?_
    obtain ⟨g36, egg36⟩ : ∃ z_ : Nat, X9.heap.size = z_ := ⟨_, rfl⟩
    refine wi_ A (h7_ t0 t1 t2 t7 t8 t9 t10) (rv_ 2 (.agg (oC 4 (v i) 0)) (fun a ee => execBo01 rfl rfl (ee _)) (rv_ 3 (.agg (oC 1 0 0)) (fun a ee => execBo0 rfl rfl) (rs_ 4 (fun a ee => ?_))))
    refine stepV rfl rfl (execBs2O (fun j => oneQ v (2 * i + j)) rfl (by rw [q0]; exact (ee _)) (by rw [q1]; exact (ee _))) ⟨.slice (some ⟨g36, 0, none⟩) 2 2, ⟨_, rfl, by subst egg36; rfl⟩, fun X10_1 hX => ?_⟩
    have bQ : Below X9.heap.size X9 X10_1 := by subst hX egg36; exact (belNew X9 _)
    have Fg36 : (X10_1.heap[g36]? = some (.cells (oR 2 (fun j => oneQ v (2 * i + j))) 35)) := by subst hX egg36; exact heapNew X9 _
    have Fgeg36 : (V.heap.size ≤ g36) := by subst hX egg36; exact (BB).size
    replace FO := (ownD_below FO bQ)
    replace FW := (ownD_below FW bQ)
    replace BB := BB.trans (bQ.mono BB.size)
    clear bQ hX egg36 ee a
    refine rs_ 5 (fun a ee => ?_)
    refine stepAppOp (q := (oneQ v)) rfl rfl rfl (ee _) (ee _) FO Fg36 (by omega) (BB).size fun p2 X10 own' gr => ⟨_, ⟨_, rfl, rfl⟩, eqw ?_⟩
    obtain ⟨BB, FW, FO2⟩ : Below V.heap.size V X10 ∧ (X10.ownsRow V.heap.size 3 1 wv (i) (intsL (i) v)) ∧ (X10.ownsRow V.heap.size 35 3 p2 (2 * i + 2) (opL (2 * i + 2) (oneQ v))) := ⟨(BB).grown gr (BB).size (fun k hk => (FO.lt k hk).1), (own_overT FW FO gr (by decide)), own'⟩
    clear FO Fg36 ee a
    refine rf_ [(7, p2)] (h6_ t0 t1 t2 t8 t9 t10) ?_
    rintro a A ⟨t7, -⟩ ⟨t0, t1, t2, t8, t9, t10, -⟩
    obtain ⟨g40, egg40⟩ : ∃ z_ : Nat, X10.heap.size = z_ := ⟨_, rfl⟩
    refine wi_ A (h7_ t0 t1 t2 t7 t8 t9 t10) (rs_ 2 (fun a ee => ?_))
    refine stepV rfl rfl (execBsI (z := v i) rfl (ee _)) ⟨.slice (some ⟨g40, 0, none⟩) 1 1, ⟨_, rfl, by subst egg40; rfl⟩, fun X11_1 hX => ?_⟩
    have bQ : Below X10.heap.size X10 X11_1 := by subst hX egg40; exact (belNew X10 _)
    have Fg40 : (X11_1.heap[g40]? = some (.cells (#[.int .i64 (v i)]) 3)) := by subst hX egg40; exact heapNew X10 _
    have Fgeg40 : (V.heap.size ≤ g40) := by subst hX egg40; exact (BB).size
    replace FW := (ownD_below FW bQ)
    replace FO2 := (ownD_below FO2 bQ)
    replace BB := BB.trans (bQ.mono BB.size)
    clear bQ hX egg40 ee a
    refine rs_ 3 (fun a ee => ?_)
    refine stepAppI (f := v) rfl rfl rfl (ee _) (ee _) FW Fg40 (by omega) (BB).size fun w2 X11 own' gr => ⟨_, ⟨_, rfl, rfl⟩, eqw ?_⟩
    obtain ⟨BB, FO2, FW2⟩ : Below V.heap.size V X11 ∧ (X11.ownsRow V.heap.size 35 3 p2 (2 * i + 2) (opL (2 * i + 2) (oneQ v))) ∧ (X11.ownsRow V.heap.size 3 1 w2 (i + 1) (intsL (i + 1) v)) := ⟨(BB).grown gr (BB).size (fun k hk => (FW.lt k hk).1), (own_overT FO2 FW gr (by decide)), own'⟩
    clear FW Fg40 ee a
    refine rf_ [(8, w2)] (h5_ t0 t1 t2 t7 t9) ?_
    rintro a A ⟨t8, -⟩ ⟨t0, t1, t2, t7, t9, -⟩
    refine wi_ A (h6_ t0 t1 t2 t7 t8 t9) (rv_ 1 (.int .i64 ((i + 1 : Nat) : Int)) (fun a ee => execAd8 (p := i) (q := 1) rfl (ee _) rfl (by omega)) (rf_ [(9, .int .i64 ((i + 1 : Nat) : Int))] (h5_ t0 t1 t2 t7 t8) ?_))
    rintro a A ⟨t9, -⟩ ⟨t0, t1, t2, t7, t8, -⟩
    exact ⟨⟨i + 1, _, _, hlt, A, t0, t1, t2, t7, t8, t9, BB, (by rw [show 2 * (i + 1) = 2 * i + 2 by omega]; exact FO2), FW2⟩, by show m - (intOf (a.eval (.tmp 9))).toNat < m - (intOf (Act.eval _ (.tmp 9))).toNat; rw [t9, es]; show m - (i + 1) < m - i; omega⟩
  · by_cases hin : i < K
    · refine wp_seq ?_
      refine wp_seq ?_
      refine wi_ A (h6_ t0 t1 t2 t7 t8 t9) (rv_ 2 (.int .i64 ((K : Nat) : Int)) (fun a ee => execLenI (len := K) rfl (ee _) (hv0.shp)) (rv_ 3 (.bool true) (fun a ee => execDec (execLtW (p := i) (q := K) rfl (ee _) (ee _)) (decide_eq_true (by omega))) (rv_ 6 (.bool false) (fun a ee => execDec (execLtW (p := i) (q := 120) rfl (ee _) rfl) (decide_eq_false (by omega))) (rf_ [(24, .bool false)] (h5_ t0 t1 t2 t7 t8) ?_))))
      rintro a A ⟨t24, -⟩ ⟨t0, t1, t2, t7, t8, -⟩
      refine wp_cond_false t24 ?_
      refine wp_exit ?_
      first | with_reducible refine exit_in ?_ | with_reducible refine exit_then (exit_in ?_) | with_reducible refine exit_then (exit_then (exit_in ?_)) | refine exit_in ?_ | refine exit_then (exit_in ?_) | refine exit_then (exit_then (exit_in ?_))
      clear t24 es
      obtain rfl : m = i := by omega
      replace FO : XL.ownsRow V.heap.size 35 3 pv (2 * m) (opL (2 * m) (oneE m v)) := by rw [opL_cg (q := oneE m v) (r := oneQ v) (fun j hj => if_neg (by omega))]; exact FO
      refine wp_seq ?_
      obtain ⟨g44, egg44⟩ : ∃ z_ : Nat, XL.heap.size = z_ := ⟨_, rfl⟩
      refine wi_ A (h5_ t0 t1 t2 t7 t8) (rv_ 1 (.agg (oC 3 0 0)) (fun a ee => execBo0 rfl rfl) (rs_ 2 (fun a ee => ?_)))
      refine stepV rfl rfl (execBs1O (fun j => oneE m v (2 * m + j)) rfl (by rw [show oneE m v (2 * m + 0) = ⟨3, 0, 0⟩ from if_pos rfl]; exact (ee _))) ⟨.slice (some ⟨g44, 0, none⟩) 1 1, ⟨_, rfl, by subst egg44; rfl⟩, fun X12_1 hX => ?_⟩
      have bQ : Below XL.heap.size XL X12_1 := by subst hX egg44; exact (belNew XL _)
      have Fg44 : (X12_1.heap[g44]? = some (.cells (oR 1 (fun j => oneE m v (2 * m + j))) 35)) := by subst hX egg44; exact heapNew XL _
      have Fgeg44 : (V.heap.size ≤ g44) := by subst hX egg44; exact (BB).size
      replace FO := (ownD_below FO bQ)
      replace FW := (ownD_below FW bQ)
      replace BB := BB.trans (bQ.mono BB.size)
      clear bQ hX egg44 ee a
      refine rs_ 3 (fun a ee => ?_)
      refine stepAppOp (q := (oneE m v)) rfl rfl rfl (ee _) (ee _) FO Fg44 (by omega) (BB).size fun p3 X12 own' gr => ⟨_, ⟨_, rfl, rfl⟩, eqw ?_⟩
      obtain ⟨BB, FW, FO3⟩ : Below V.heap.size V X12 ∧ (X12.ownsRow V.heap.size 3 1 wv m (intsL m v)) ∧ (X12.ownsRow V.heap.size 35 3 p3 (2 * m + 1) (opL (2 * m + 1) (oneE m v))) := ⟨(BB).grown gr (BB).size (fun k hk => (FO.lt k hk).1), (own_overT FW FO gr (by decide)), own'⟩
      clear FO Fg44 ee a
      refine rf_ [(7, p3)] (h3_ t1 t2 t8) ?_
      rintro a A ⟨t7, -⟩ ⟨t1, t2, t8, -⟩
      refine wp_seq ?_
      obtain ⟨g48, egg48⟩ : ∃ z_ : Nat, X12.heap.size = z_ := ⟨_, rfl⟩
      refine wi_ A (h4_ t1 t2 t7 t8) (rs_ 1 (fun a ee => ?_))
      refine stepV rfl rfl (execBs1I (fun _ => ((c : Nat) : Int)) rfl (ee _)) ⟨.slice (some ⟨g48, 0, none⟩) 1 1, ⟨_, rfl, by subst egg48; rfl⟩, fun X13_1 hX => ?_⟩
      have bQ : Below X12.heap.size X12 X13_1 := by subst hX egg48; exact (belNew X12 _)
      have Fg48 : (X13_1.heap[g48]? = some (.cells (iR 1 (fun _ => ((c : Nat) : Int))) 3)) := by subst hX egg48; exact heapNew X12 _
      have Fgeg48 : (V.heap.size ≤ g48) := by subst hX egg48; exact (BB).size
      replace FW := (ownD_below FW bQ)
      replace FO3 := (ownD_below FO3 bQ)
      replace BB := BB.trans (bQ.mono BB.size)
      clear bQ hX egg48 ee a
      obtain ⟨g52, egg52⟩ : ∃ z_ : Nat, X13_1.heap.size = z_ := ⟨_, rfl⟩
      refine rv_ 3 (.agg (oC 2 0 2)) (fun a ee => execBo02 rfl rfl rfl) (rv_ 4 (.agg (oC 6 0 0)) (fun a ee => execBo0 rfl rfl) (rs_ 5 (fun a ee => ?_)))
      refine stepV rfl rfl (execBs2O takO rfl (ee _) (ee _)) ⟨.slice (some ⟨g52, 0, none⟩) 2 2, ⟨_, rfl, by subst egg52; rfl⟩, fun X13_2 hX => ?_⟩
      have bQ : Below X13_1.heap.size X13_1 X13_2 := by subst hX egg52; exact (belNew X13_1 _)
      have Fg52 : (X13_2.heap[g52]? = some (.cells (oR 2 takO) 35)) := by subst hX egg52; exact heapNew X13_1 _
      have Fgeg52 : (V.heap.size ≤ g52) := by subst hX egg52; exact (BB).size
      replace FW := (ownD_below FW bQ)
      replace FO3 := (ownD_below FO3 bQ)
      replace Fg48 := (on9 Fg48 bQ)
      replace BB := BB.trans (bQ.mono BB.size)
      clear bQ hX egg52 ee a
      obtain ⟨g53, egg53⟩ : ∃ z_ : Nat, X13_2.heap.size = z_ := ⟨_, rfl⟩
      refine rs_ 6 (fun a ee => ?_)
      refine stepV rfl rfl (execBs2V (fun i => if i = 0 then p3 else .slice (some ⟨g52, 0, none⟩) 2 2) rfl (ee _) (ee _) (fun i hi => by rcases (show i = 0 ∨ i = 1 by omega) with rfl | rfl; exact own_slq2 FO3; exact ⟨_, _, _, rfl⟩)) ⟨.slice (some ⟨g53, 0, none⟩) 2 2, ⟨_, rfl, by subst egg53; rfl⟩, fun X13_3 hX => ?_⟩
      have bQ : Below X13_2.heap.size X13_2 X13_3 := by subst hX egg53; exact (belNew X13_2 _)
      have Fg53 : (X13_3.heap[g53]? = some (.cells (vR 2 (fun i => if i = 0 then p3 else .slice (some ⟨g52, 0, none⟩) 2 2)) 36)) := by subst hX egg53; exact heapNew X13_2 _
      have Fgeg53 : (V.heap.size ≤ g53) := by subst hX egg53; exact (BB).size
      replace FW := (ownD_below FW bQ)
      replace FO3 := (ownD_below FO3 bQ)
      replace Fg48 := (on9 Fg48 bQ)
      replace Fg52 := (on9 Fg52 bQ)
      replace BB := BB.trans (bQ.mono BB.size)
      clear bQ hX egg53 ee a
      refine rv_ 7 (.agg #[.slice (some ⟨g48, 0, none⟩) 1 1, .slice (some ⟨g53, 0, none⟩) 2 2]) (fun a ee => execBp01 rfl (ee _) (ee _) ⟨_, _, _, rfl⟩ ⟨_, _, _, rfl⟩) (rc_ 9 (one_play I _ _ m c k2 v sc X13_3 (by omega) hcc hvv (one_pla hcc hvv Fg48 FO3 Fg52 Fg53) (hv2.on BB)) fun e X13_4 hh => ?_)
      obtain ⟨pk, tk, tv, M, NN, he, hM, hH, hb⟩ := hh
      refine ⟨_, he, ?_⟩
      have bQ : Below X13_3.heap.size X13_3 X13_4 := hb
      have FH : (His V.heap.size X13_4 pk tk tv NN 2 (fun i => (Loo.pk (oneP m v c) (scr k2 sc) i : Int)) (fun t => if t = 0 then [] else (List.range m).map v)) := hH.base (BB).size
      have FM : (M ≤ c) := hM
      replace FW := (ownD_below FW bQ)
      replace BB := BB.trans (bQ.mono BB.size)
      clear FO3 Fg48 Fg52 Fg53 bQ
      obtain ⟨g11, egg11⟩ : ∃ z_ : Nat, X13_4.heap.size = z_ := ⟨_, rfl⟩
      refine rs_ 13 (fun a ee => ?_)
      refine stepV rfl rfl (execAlH rfl) ⟨.pointer (some ⟨g11, 0, none⟩), ⟨_, rfl, by subst egg11; rfl⟩, fun X13_5 hX => ?_⟩
      have bQ : Below X13_4.heap.size X13_4 X13_5 := by subst hX egg11; exact (belNew X13_4 _)
      have Fg11 : (X13_5.heap[g11]? = some (.cells (hC (.slice none 0 0) 0 false false 0 (.slice none 0 0)) 26)) := by subst hX egg11; exact heapNew X13_4 _
      have Fgeg11 : (V.heap.size ≤ g11) := by subst hX egg11; exact (BB).size
      replace FW := (ownD_below FW bQ)
      replace FH := (FH.on bQ)
      replace BB := BB.trans (bQ.mono BB.size)
      clear bQ hX egg11 ee a
      refine rs_ 14 (fun a ee => ?_)
      refine stepS rfl rfl (execStH rfl (ee _) (ee _) Fg11 (sl3 FH.picks.shp) (sl3 FH.lists.shp)) ⟨_, ⟨_, rfl, rfl⟩, fun X13 hX => ?_⟩
      obtain ⟨BB, FW, FH, Fg11s⟩ : Below V.heap.size V X13 ∧ (X13.ownsRow V.heap.size 3 1 wv m (intsL m v)) ∧ (His V.heap.size X13 pk tk tv NN 2 (fun i => (Loo.pk (oneP m v c) (scr k2 sc) i : Int)) (fun t => if t = 0 then [] else (List.range m).map v)) ∧ (X13.heap[g11]? = some (.cells (hC pk M true false 0 tk) 26)) := by subst hX; exact ⟨below4 BB Fgeg11 _, (ownG_T FW Fg11 (by decide) grR18), (FH.keepT Fg11 (by decide) (by decide) grR18), setRow_heap _ _ _ _ _ _ Fg11⟩
      clear Fg11 hX ee a
      refine rf_ [(11, .pointer (some ⟨g11, 0, none⟩)), (12, .int .i64 ((0 : Nat) : Int))] (h2_ t1 t8) ?_
      rintro a A ⟨t11, t12, -⟩ ⟨t1, t8, -⟩
      obtain ⟨tb, to_, tc, etk⟩ := FH.lists.open (by omega)
      refine wp_seq ?_
      refine wi_ A (h4_ t1 t8 t11 t12) (rv_ 1 (.bool true) (fun a ee => execDec (execEreql (p := 0) (q := 0) rfl (ee _)) (by decide)) (rv_ 3 (.pointer (some ⟨g11, 2, none⟩)) (fun a ee => execFh2 rfl (ee _)) (rv_ 4 (.bool true) (fun a ee => execLdG rfl (Or.inr (Or.inr (Or.inl rfl))) (ee _) (hC_at Fg11s).2.2.1) (rv_ 7 (.pointer (some ⟨g11, 4, none⟩)) (fun a ee => execFh4 rfl (ee _)) (rv_ 8 (.int .i64 ((0 : Nat) : Int)) (fun a ee => execLdG rfl (Or.inr (Or.inl rfl)) (ee _) (hC_at Fg11s).2.2.2.2.1) (rv_ 9 (.bool true) (fun a ee => execDec (execEqN (p := 0) (q := 0) rfl (ee _) rfl) (decide_eq_true (by decide))) (rv_ 12 (.pointer (some ⟨g11, 1, none⟩)) (fun a ee => execFh1 rfl (ee _)) (rv_ 13 (.int .i64 ((M : Nat) : Int)) (fun a ee => execLdG rfl (Or.inr (Or.inl rfl)) (ee _) (hC_at Fg11s).2.1) (rv_ 15 (.bool true) (fun a ee => execDec (execLeN (p := M) (q := c) rfl (ee _) (ee _)) (decide_eq_true (by omega))) (rv_ 18 (.pointer (some ⟨g11, 5, none⟩)) (fun a ee => execFh5 rfl (ee _)) (rv_ 19 (tk) (fun a ee => execLdG rfl (Or.inr (Or.inr (Or.inr (Or.inl rfl)))) (ee _) (hC_at Fg11s).2.2.2.2.2) (rv_ 20 (.int .i64 ((2 : Nat) : Int)) (fun a ee => execLnLL (len := 2) rfl (ee _) (FH).lists.shp) (rv_ 21 (.bool true) (fun a ee => execDec (execEqN (p := 2) (q := 2) rfl (ee _) rfl) (decide_eq_true (by decide))) (rv_ 24 (.pointer (some ⟨g11, 5, none⟩)) (fun a ee => execFh5 rfl (ee _)) (rv_ 25 (tk) (fun a ee => execLdG rfl (Or.inr (Or.inr (Or.inr (Or.inl rfl)))) (ee _) (hC_at Fg11s).2.2.2.2.2) (rv_ 26 (.pointer (some ⟨tb, to_ + 0, none⟩)) (fun a ee => execIxLL (k := 0) rfl ((ee _).trans etk) rfl (by omega)) (rv_ 27 (tv 0) (fun a ee => execLdG rfl (Or.inl rfl) (ee _) (SliceV.at (FH).lists etk (by omega))) (rv_ 28 (.int .i64 ((0 : Nat) : Int)) (fun a ee => execLenI (len := 0) rfl (ee _) (FH.taken (t := 0) (by omega)).shp) (rv_ 29 (.bool true) (fun a ee => execDec (execEqN (p := 0) (q := 0) rfl (ee _) rfl) (decide_eq_true (by decide))) (rv_ 32 (.pointer (some ⟨g11, 5, none⟩)) (fun a ee => execFh5 rfl (ee _)) (rv_ 33 (tk) (fun a ee => execLdG rfl (Or.inr (Or.inr (Or.inr (Or.inl rfl)))) (ee _) (hC_at Fg11s).2.2.2.2.2) (rv_ 34 (.pointer (some ⟨tb, to_ + 1, none⟩)) (fun a ee => execIxLL (k := 1) rfl ((ee _).trans etk) rfl (by omega)) (rv_ 35 (tv 1) (fun a ee => execLdG rfl (Or.inl rfl) (ee _) (SliceV.at (FH).lists etk (by omega))) (rc_ 37 (same19 _ _ m _ _ X13 (lenM FH) (own_ints FW hvf) (fun j hj => map_getD hj) (by omega)) (cb_ fun X14 bQ => ?_)))))))))))))))))))))))))
      replace FW := (ownD_below FW bQ)
      replace FH := (FH.on bQ)
      replace Fg11s := (on9 Fg11s bQ)
      replace BB := BB.trans (bQ.mono BB.size)
      clear bQ
      refine rg_ [(6, .bool true)] ?_
      rintro a A ⟨t6, -⟩
      refine wp_ret ?_
      refine bodyPost_ret (results_tmp rfl _ _ _) A.2 ⟨?_, BB⟩
      show Ending.returned (a.eval (.tmp 6)) = _
      rw [t6]
    · refine wp_seq ?_
      refine wp_seq ?_
      refine wi_ A (h6_ t0 t1 t2 t7 t8 t9) (rv_ 2 (.int .i64 ((K : Nat) : Int)) (fun a ee => execLenI (len := K) rfl (ee _) (hv0.shp)) (rv_ 3 (.bool false) (fun a ee => execDec (execLtW (p := i) (q := K) rfl (ee _) (ee _)) (decide_eq_false (by omega))) (rf_ [(24, .bool false)] (h5_ t0 t1 t2 t7 t8) ?_)))
      rintro a A ⟨t24, -⟩ ⟨t0, t1, t2, t7, t8, -⟩
      refine wp_cond_false t24 ?_
      refine wp_exit ?_
      first | with_reducible refine exit_in ?_ | with_reducible refine exit_then (exit_in ?_) | with_reducible refine exit_then (exit_then (exit_in ?_)) | refine exit_in ?_ | refine exit_then (exit_in ?_) | refine exit_then (exit_then (exit_in ?_))
      clear t24 es
      obtain rfl : m = i := by omega
      replace FO : XL.ownsRow V.heap.size 35 3 pv (2 * m) (opL (2 * m) (oneE m v)) := by rw [opL_cg (q := oneE m v) (r := oneQ v) (fun j hj => if_neg (by omega))]; exact FO
      refine wp_seq ?_
      obtain ⟨g44, egg44⟩ : ∃ z_ : Nat, XL.heap.size = z_ := ⟨_, rfl⟩
      refine wi_ A (h5_ t0 t1 t2 t7 t8) (rv_ 1 (.agg (oC 3 0 0)) (fun a ee => execBo0 rfl rfl) (rs_ 2 (fun a ee => ?_)))
      refine stepV rfl rfl (execBs1O (fun j => oneE m v (2 * m + j)) rfl (by rw [show oneE m v (2 * m + 0) = ⟨3, 0, 0⟩ from if_pos rfl]; exact (ee _))) ⟨.slice (some ⟨g44, 0, none⟩) 1 1, ⟨_, rfl, by subst egg44; rfl⟩, fun X12_1 hX => ?_⟩
      have bQ : Below XL.heap.size XL X12_1 := by subst hX egg44; exact (belNew XL _)
      have Fg44 : (X12_1.heap[g44]? = some (.cells (oR 1 (fun j => oneE m v (2 * m + j))) 35)) := by subst hX egg44; exact heapNew XL _
      have Fgeg44 : (V.heap.size ≤ g44) := by subst hX egg44; exact (BB).size
      replace FO := (ownD_below FO bQ)
      replace FW := (ownD_below FW bQ)
      replace BB := BB.trans (bQ.mono BB.size)
      clear bQ hX egg44 ee a
      refine rs_ 3 (fun a ee => ?_)
      refine stepAppOp (q := (oneE m v)) rfl rfl rfl (ee _) (ee _) FO Fg44 (by omega) (BB).size fun p3 X12 own' gr => ⟨_, ⟨_, rfl, rfl⟩, eqw ?_⟩
      obtain ⟨BB, FW, FO3⟩ : Below V.heap.size V X12 ∧ (X12.ownsRow V.heap.size 3 1 wv m (intsL m v)) ∧ (X12.ownsRow V.heap.size 35 3 p3 (2 * m + 1) (opL (2 * m + 1) (oneE m v))) := ⟨(BB).grown gr (BB).size (fun k hk => (FO.lt k hk).1), (own_overT FW FO gr (by decide)), own'⟩
      clear FO Fg44 ee a
      refine rf_ [(7, p3)] (h3_ t1 t2 t8) ?_
      rintro a A ⟨t7, -⟩ ⟨t1, t2, t8, -⟩
      refine wp_seq ?_
      obtain ⟨g48, egg48⟩ : ∃ z_ : Nat, X12.heap.size = z_ := ⟨_, rfl⟩
      refine wi_ A (h4_ t1 t2 t7 t8) (rs_ 1 (fun a ee => ?_))
      refine stepV rfl rfl (execBs1I (fun _ => ((c : Nat) : Int)) rfl (ee _)) ⟨.slice (some ⟨g48, 0, none⟩) 1 1, ⟨_, rfl, by subst egg48; rfl⟩, fun X13_1 hX => ?_⟩
      have bQ : Below X12.heap.size X12 X13_1 := by subst hX egg48; exact (belNew X12 _)
      have Fg48 : (X13_1.heap[g48]? = some (.cells (iR 1 (fun _ => ((c : Nat) : Int))) 3)) := by subst hX egg48; exact heapNew X12 _
      have Fgeg48 : (V.heap.size ≤ g48) := by subst hX egg48; exact (BB).size
      replace FW := (ownD_below FW bQ)
      replace FO3 := (ownD_below FO3 bQ)
      replace BB := BB.trans (bQ.mono BB.size)
      clear bQ hX egg48 ee a
      obtain ⟨g52, egg52⟩ : ∃ z_ : Nat, X13_1.heap.size = z_ := ⟨_, rfl⟩
      refine rv_ 3 (.agg (oC 2 0 2)) (fun a ee => execBo02 rfl rfl rfl) (rv_ 4 (.agg (oC 6 0 0)) (fun a ee => execBo0 rfl rfl) (rs_ 5 (fun a ee => ?_)))
      refine stepV rfl rfl (execBs2O takO rfl (ee _) (ee _)) ⟨.slice (some ⟨g52, 0, none⟩) 2 2, ⟨_, rfl, by subst egg52; rfl⟩, fun X13_2 hX => ?_⟩
      have bQ : Below X13_1.heap.size X13_1 X13_2 := by subst hX egg52; exact (belNew X13_1 _)
      have Fg52 : (X13_2.heap[g52]? = some (.cells (oR 2 takO) 35)) := by subst hX egg52; exact heapNew X13_1 _
      have Fgeg52 : (V.heap.size ≤ g52) := by subst hX egg52; exact (BB).size
      replace FW := (ownD_below FW bQ)
      replace FO3 := (ownD_below FO3 bQ)
      replace Fg48 := (on9 Fg48 bQ)
      replace BB := BB.trans (bQ.mono BB.size)
      clear bQ hX egg52 ee a
      obtain ⟨g53, egg53⟩ : ∃ z_ : Nat, X13_2.heap.size = z_ := ⟨_, rfl⟩
      refine rs_ 6 (fun a ee => ?_)
      refine stepV rfl rfl (execBs2V (fun i => if i = 0 then p3 else .slice (some ⟨g52, 0, none⟩) 2 2) rfl (ee _) (ee _) (fun i hi => by rcases (show i = 0 ∨ i = 1 by omega) with rfl | rfl; exact own_slq2 FO3; exact ⟨_, _, _, rfl⟩)) ⟨.slice (some ⟨g53, 0, none⟩) 2 2, ⟨_, rfl, by subst egg53; rfl⟩, fun X13_3 hX => ?_⟩
      have bQ : Below X13_2.heap.size X13_2 X13_3 := by subst hX egg53; exact (belNew X13_2 _)
      have Fg53 : (X13_3.heap[g53]? = some (.cells (vR 2 (fun i => if i = 0 then p3 else .slice (some ⟨g52, 0, none⟩) 2 2)) 36)) := by subst hX egg53; exact heapNew X13_2 _
      have Fgeg53 : (V.heap.size ≤ g53) := by subst hX egg53; exact (BB).size
      replace FW := (ownD_below FW bQ)
      replace FO3 := (ownD_below FO3 bQ)
      replace Fg48 := (on9 Fg48 bQ)
      replace Fg52 := (on9 Fg52 bQ)
      replace BB := BB.trans (bQ.mono BB.size)
      clear bQ hX egg53 ee a
      refine rv_ 7 (.agg #[.slice (some ⟨g48, 0, none⟩) 1 1, .slice (some ⟨g53, 0, none⟩) 2 2]) (fun a ee => execBp01 rfl (ee _) (ee _) ⟨_, _, _, rfl⟩ ⟨_, _, _, rfl⟩) (rc_ 9 (one_play I _ _ m c k2 v sc X13_3 (by omega) hcc hvv (one_pla hcc hvv Fg48 FO3 Fg52 Fg53) (hv2.on BB)) fun e X13_4 hh => ?_)
      obtain ⟨pk, tk, tv, M, NN, he, hM, hH, hb⟩ := hh
      refine ⟨_, he, ?_⟩
      have bQ : Below X13_3.heap.size X13_3 X13_4 := hb
      have FH : (His V.heap.size X13_4 pk tk tv NN 2 (fun i => (Loo.pk (oneP m v c) (scr k2 sc) i : Int)) (fun t => if t = 0 then [] else (List.range m).map v)) := hH.base (BB).size
      have FM : (M ≤ c) := hM
      replace FW := (ownD_below FW bQ)
      replace BB := BB.trans (bQ.mono BB.size)
      clear FO3 Fg48 Fg52 Fg53 bQ
      obtain ⟨g11, egg11⟩ : ∃ z_ : Nat, X13_4.heap.size = z_ := ⟨_, rfl⟩
      refine rs_ 13 (fun a ee => ?_)
      refine stepV rfl rfl (execAlH rfl) ⟨.pointer (some ⟨g11, 0, none⟩), ⟨_, rfl, by subst egg11; rfl⟩, fun X13_5 hX => ?_⟩
      have bQ : Below X13_4.heap.size X13_4 X13_5 := by subst hX egg11; exact (belNew X13_4 _)
      have Fg11 : (X13_5.heap[g11]? = some (.cells (hC (.slice none 0 0) 0 false false 0 (.slice none 0 0)) 26)) := by subst hX egg11; exact heapNew X13_4 _
      have Fgeg11 : (V.heap.size ≤ g11) := by subst hX egg11; exact (BB).size
      replace FW := (ownD_below FW bQ)
      replace FH := (FH.on bQ)
      replace BB := BB.trans (bQ.mono BB.size)
      clear bQ hX egg11 ee a
      refine rs_ 14 (fun a ee => ?_)
      refine stepS rfl rfl (execStH rfl (ee _) (ee _) Fg11 (sl3 FH.picks.shp) (sl3 FH.lists.shp)) ⟨_, ⟨_, rfl, rfl⟩, fun X13 hX => ?_⟩
      obtain ⟨BB, FW, FH, Fg11s⟩ : Below V.heap.size V X13 ∧ (X13.ownsRow V.heap.size 3 1 wv m (intsL m v)) ∧ (His V.heap.size X13 pk tk tv NN 2 (fun i => (Loo.pk (oneP m v c) (scr k2 sc) i : Int)) (fun t => if t = 0 then [] else (List.range m).map v)) ∧ (X13.heap[g11]? = some (.cells (hC pk M true false 0 tk) 26)) := by subst hX; exact ⟨below4 BB Fgeg11 _, (ownG_T FW Fg11 (by decide) grR18), (FH.keepT Fg11 (by decide) (by decide) grR18), setRow_heap _ _ _ _ _ _ Fg11⟩
      clear Fg11 hX ee a
      refine rf_ [(11, .pointer (some ⟨g11, 0, none⟩)), (12, .int .i64 ((0 : Nat) : Int))] (h2_ t1 t8) ?_
      rintro a A ⟨t11, t12, -⟩ ⟨t1, t8, -⟩
      obtain ⟨tb, to_, tc, etk⟩ := FH.lists.open (by omega)
      refine wp_seq ?_
      refine wi_ A (h4_ t1 t8 t11 t12) (rv_ 1 (.bool true) (fun a ee => execDec (execEreql (p := 0) (q := 0) rfl (ee _)) (by decide)) (rv_ 3 (.pointer (some ⟨g11, 2, none⟩)) (fun a ee => execFh2 rfl (ee _)) (rv_ 4 (.bool true) (fun a ee => execLdG rfl (Or.inr (Or.inr (Or.inl rfl))) (ee _) (hC_at Fg11s).2.2.1) (rv_ 7 (.pointer (some ⟨g11, 4, none⟩)) (fun a ee => execFh4 rfl (ee _)) (rv_ 8 (.int .i64 ((0 : Nat) : Int)) (fun a ee => execLdG rfl (Or.inr (Or.inl rfl)) (ee _) (hC_at Fg11s).2.2.2.2.1) (rv_ 9 (.bool true) (fun a ee => execDec (execEqN (p := 0) (q := 0) rfl (ee _) rfl) (decide_eq_true (by decide))) (rv_ 12 (.pointer (some ⟨g11, 1, none⟩)) (fun a ee => execFh1 rfl (ee _)) (rv_ 13 (.int .i64 ((M : Nat) : Int)) (fun a ee => execLdG rfl (Or.inr (Or.inl rfl)) (ee _) (hC_at Fg11s).2.1) (rv_ 15 (.bool true) (fun a ee => execDec (execLeN (p := M) (q := c) rfl (ee _) (ee _)) (decide_eq_true (by omega))) (rv_ 18 (.pointer (some ⟨g11, 5, none⟩)) (fun a ee => execFh5 rfl (ee _)) (rv_ 19 (tk) (fun a ee => execLdG rfl (Or.inr (Or.inr (Or.inr (Or.inl rfl)))) (ee _) (hC_at Fg11s).2.2.2.2.2) (rv_ 20 (.int .i64 ((2 : Nat) : Int)) (fun a ee => execLnLL (len := 2) rfl (ee _) (FH).lists.shp) (rv_ 21 (.bool true) (fun a ee => execDec (execEqN (p := 2) (q := 2) rfl (ee _) rfl) (decide_eq_true (by decide))) (rv_ 24 (.pointer (some ⟨g11, 5, none⟩)) (fun a ee => execFh5 rfl (ee _)) (rv_ 25 (tk) (fun a ee => execLdG rfl (Or.inr (Or.inr (Or.inr (Or.inl rfl)))) (ee _) (hC_at Fg11s).2.2.2.2.2) (rv_ 26 (.pointer (some ⟨tb, to_ + 0, none⟩)) (fun a ee => execIxLL (k := 0) rfl ((ee _).trans etk) rfl (by omega)) (rv_ 27 (tv 0) (fun a ee => execLdG rfl (Or.inl rfl) (ee _) (SliceV.at (FH).lists etk (by omega))) (rv_ 28 (.int .i64 ((0 : Nat) : Int)) (fun a ee => execLenI (len := 0) rfl (ee _) (FH.taken (t := 0) (by omega)).shp) (rv_ 29 (.bool true) (fun a ee => execDec (execEqN (p := 0) (q := 0) rfl (ee _) rfl) (decide_eq_true (by decide))) (rv_ 32 (.pointer (some ⟨g11, 5, none⟩)) (fun a ee => execFh5 rfl (ee _)) (rv_ 33 (tk) (fun a ee => execLdG rfl (Or.inr (Or.inr (Or.inr (Or.inl rfl)))) (ee _) (hC_at Fg11s).2.2.2.2.2) (rv_ 34 (.pointer (some ⟨tb, to_ + 1, none⟩)) (fun a ee => execIxLL (k := 1) rfl ((ee _).trans etk) rfl (by omega)) (rv_ 35 (tv 1) (fun a ee => execLdG rfl (Or.inl rfl) (ee _) (SliceV.at (FH).lists etk (by omega))) (rc_ 37 (same19 _ _ m _ _ X13 (lenM FH) (own_ints FW hvf) (fun j hj => map_getD hj) (by omega)) (cb_ fun X14 bQ => ?_)))))))))))))))))))))))))
      replace FW := (ownD_below FW bQ)
      replace FH := (FH.on bQ)
      replace Fg11s := (on9 Fg11s bQ)
      replace BB := BB.trans (bQ.mono BB.size)
      clear bQ
      refine rg_ [(6, .bool true)] ?_
      rintro a A ⟨t6, -⟩
      refine wp_ret ?_
      refine bodyPost_ret (results_tmp rfl _ _ _) A.2 ⟨?_, BB⟩
      show Ending.returned (a.eval (.tmp 6)) = _
      rw [t6]
end Go.Proofs.Ytcgkelgncehekaa.Loo
