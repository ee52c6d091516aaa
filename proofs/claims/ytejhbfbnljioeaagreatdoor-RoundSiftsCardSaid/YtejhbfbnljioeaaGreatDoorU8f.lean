import Derived.Test.YtejhbfbnljioeaaGreatDoorU8e
import Derived.Test.YtejhbfbnljioeaaGreatDoorG9d
namespace Go.Proofs.YtejhbfbnljioeaaGreatDoor.Rnd
open Go.RowKit Gf8 Aes By8 Cel Cf Win Oni Rou
open Go.ChangeMaps Go.MapKept
/- The reference's Fate. Written by tools/mkU8f.py. -/

/-- A replay's or a fresh one's number, when j of those ahead have been looked at. -/
def fz (E : Nat → Nat) (T : Nat → Nat → Nat) (A : List Nat) (i j : Nat) : Nat := if (decide (tv (T i) 16 ∈ A) || dup E T i j) = true then 1 else 2
section
variable {E : Nat → Nat} {T : Nat → Nat → Nat} {A : List Nat} {i j : Nat}
theorem fz_end (h : E i = 0) : fz E T A i i = ft E T A i := by unfold ft; rw [if_neg (show ¬ E i ≠ 0 from fun z => z h)]; rfl
theorem fz_in (h : decide (tv (T i) 16 ∈ A) = true) : fz E T A i 0 = 1 := if_pos (by rw [h]; rfl)
theorem fz_out (h : decide (tv (T i) 16 ∈ A) = false) : fz E T A i 0 = 2 := if_neg (by rw [h]; simp [dup])
theorem fz_y (h : E j = 0 ∧ tv (T j) 16 = tv (T i) 16) : fz E T A i (j + 1) = 1 := if_pos (by rw [dup, decide_eq_true h]; simp)
theorem fz_n (h : ¬ (E j = 0 ∧ tv (T j) 16 = tv (T i) 16)) : fz E T A i (j + 1) = fz E T A i j := by unfold fz; rw [dup, decide_eq_false h, Bool.or_false]
theorem ft_pos (h : E j = 0) : ((ft E T A j : Nat) : Int) > 0 := by
  unfold ft
  rw [if_neg (fun z => z h)]
  split <;> decide
end
theorem own_openI {W : World} {B n : Nat} {v : Value} {f : Nat → Int} (h : W.ownsRow B 3 1 v n (Drw.intsL n f)) (hn : 0 < n) : ∃ g cap, v = .slice (some ⟨g, 0, none⟩) n cap ∧ g < W.heap.size ∧ ∀ j, j < n → W.cell? ⟨g, 0 + j, none⟩ = some (.int .i64 (f j)) := by
  rcases h.2 with ⟨_, rfl⟩ | ⟨g, cap, cur, rfl, hB, hg, q1, q2, q3, q4⟩
  · omega
  · refine ⟨g, cap, rfl, (Array.getElem?_eq_some_iff.1 hg).1, fun j hj => ?_⟩
    rw [cell_of_row _ _ _ _ _ _ hg, Nat.zero_add, ← Array.getElem?_toList]
    have h5 : (cur.toList.take (n * 1))[j]? = some (.int .i64 (f j)) := by rw [q4]; simp [Drw.intsL, hj]
    rw [List.getElem?_take_of_lt (by omega)] at h5
    exact h5
theorem rdI_on {W X : World} {g n : Nat} {f : Nat → Option Value} (h : g < W.heap.size ∧ ∀ j, j < n → W.cell? ⟨g, 0 + j, none⟩ = f j) (b : Below W.heap.size W X) : g < X.heap.size ∧ ∀ j, j < n → X.cell? ⟨g, 0 + j, none⟩ = f j := ⟨Nat.lt_of_lt_of_le h.1 b.size, fun j hj => (cell_below b h.1).trans (h.2 j hj)⟩
theorem rdP_on {W X : World} {g n : Nat} {f : Nat → Nat → Option Value} (h : g < W.heap.size ∧ ∀ i, i < n → ∀ j, j < 17 → W.cell? ⟨g, i * 17 + j, none⟩ = f i j) (b : Below W.heap.size W X) : g < X.heap.size ∧ ∀ i, i < n → ∀ j, j < 17 → X.cell? ⟨g, i * 17 + j, none⟩ = f i j := ⟨Nat.lt_of_lt_of_le h.1 b.size, fun i hi j hj => (cell_below b h.1).trans (h.2 i hi j hj)⟩
theorem ownI_lt {W : World} {B n s : Nat} {t : TypeId} {v : Value} {xs : List Value} (h : W.ownsRow B t s v n xs) {b : Nat} (e : v.ownBlock = some b) : B ≤ b ∧ b < W.heap.size := by
  obtain ⟨h1, cur, h2⟩ := own_blk h e
  exact ⟨h1, (Array.getElem?_eq_some_iff.1 h2).1⟩
theorem PeL.over {W X : World} {B k B2 n2 s2 : Nat} {v u : Value} {cv : Nat → Value} {r c : Nat → Nat → Nat} {l : Nat → Nat} {t : TypeId} {ys : List Value} (h : PeL B W v k cv r l c) (ho : W.ownsRow B2 t s2 u n2 ys) (gr : W.grownBy X u.ownBlock) (ht : t ≠ 5 ∧ t ≠ 46) : PeL B X v k cv r l c := by
  cases hu : u.ownBlock with
  | none =>
    rw [hu] at gr
    exact ⟨ownG h.own gr (fun b _ e => by cases e), fun m hm => ownG (h.cel m hm) gr (fun b _ e => by cases e)⟩
  | some g =>
    rw [hu] at gr
    obtain ⟨_, cur, hg⟩ := own_blk ho hu
    exact h.grT gr hg ht
set_option maxRecDepth 100000 in
set_option maxHeartbeats 4000000 in
/-- The reference's Fate. -/
theorem rfate (q : Cg) (nw : Int) (ev : Value) (wn : Nat) (nu : Nat → Int) (tw : Nat → Value) (lw : Nat → Nat) (t : Nat → Nat → Nat → Nat) (kv cvv : Value) (n : Nat) (xv : Nat → Value) (ky : Nat → Nat) (EE : Nat → Nat) (TT CC : Nat → Nat → Nat) (V : World) (hW : Wd V nw ev wn nu tw lw t) (hC : Cvs V cvv n xv) (hn : n ≤ 1000000) (hTb : ∀ i j, j < 16 → TT i j < 256) (FK : SliceN V kv 32 ky) (hP : ∀ i, i < n → ∀ W kv, Below V.heap.size V W → SliceN W kv 32 ky → Calls Tryz.prog 24 #[kv, .int .i64 q.l, xv i] W fun e w' => ∃ cu, e = .returned (.tuple #[.agg (pC cu (TT i)), .int .i64 ((EE i : Nat) : Int)]) ∧ w'.ownsRow W.heap.size 5 1 cu (peN (EE i)) (bytesL (peN (EE i)) (CC i)) ∧ Below W.heap.size W w') :
    Calls Tryz.prog 13 #[kv, .int .i64 q.l, .agg (wC nw ev), cvv] V fun e w' => (∃ fv av cw, e = .returned (.tuple #[fv, av]) ∧ w'.ownsRow V.heap.size 3 1 fv n (Drw.intsL n (fun i => (((ft EE TT (wAll (esL wn nu lw t))) i : Nat) : Int))) ∧ PeL V.heap.size w' av n cw TT (fun i => peN (EE i)) CC) ∧ Below V.heap.size V w' := by
  go_enter Tryz.func13, Tryz.ntmps13
  refine wo_ 69 [(0, kv), (1, .int .i64 q.l), (2, .agg (wC nw ev)), (3, cvv)] ?_
  rintro a A ⟨t0, t1, t2, t3, -⟩
  have BW : Below V.heap.size V V := Below.refl _ _
  have BB := BW
  refine wp_seq ?_
  obtain ⟨g6, egg6⟩ : ∃ z_ : Nat, V.heap.size = z_ := ⟨_, rfl⟩
  refine wi_ A (h4_ t0 t1 t2 t3) (rs_ 0 (fun a ee => ?_))
  refine stepV rfl rfl (execBoxW rfl (ee _)) ⟨.pointer (some ⟨g6, 0, none⟩), ⟨_, rfl, by subst egg6; rfl⟩, fun X0 hX => ?_⟩
  have bQ : Below V.heap.size V X0 := by subst hX egg6; exact (belNew V _)
  have Fg6 : (X0.heap[g6]? = some (.cells (wC nw ev) 27)) := by subst hX egg6; exact heapNew V _
  replace BB := BB.trans (bQ.mono BB.size)
  clear bQ hX egg6 ee a
  refine rf_ [(6, .pointer (some ⟨g6, 0, none⟩))] (h3_ t0 t1 t3) ?_
  rintro a A ⟨t6, -⟩ ⟨t0, t1, t3, -⟩
  refine wp_seq ?_
  refine wi_ A (h4_ t0 t1 t3 t6) (rf_ [(10, .slice none 0 0)] (h4_ t0 t1 t3 t6) ?_)
  rintro a A ⟨t10, -⟩ ⟨t0, t1, t3, t6, -⟩
  refine wp_seq ?_
  refine wi_ A (h5_ t0 t1 t3 t6 t10) (rf_ [(11, .slice none 0 0)] (h5_ t0 t1 t3 t6 t10) ?_)
  rintro a A ⟨t11, -⟩ ⟨t0, t1, t3, t6, t10, -⟩
  have BV := BB
  clear BB
  have BB : Below X0.heap.size X0 X0 := Below.refl _ _
  refine wp_seq ?_
  refine wp_seq ?_
  refine wi_ A (h6_ t0 t1 t3 t6 t10 t11) (rf_ [(12, .int .i64 ((0 : Nat) : Int))] (h6_ t0 t1 t3 t6 t10 t11) ?_)
  rintro a A ⟨t12, -⟩ ⟨t0, t1, t3, t6, t10, t11, -⟩
  have FI : X0.ownsRow X0.heap.size 3 1 (.slice none 0 0) 0 (Drw.intsL 0 (fun i => (((ft EE TT (wAll (esL wn nu lw t))) i : Nat) : Int))) := ⟨rfl, Or.inl ⟨rfl, rfl⟩⟩
  have FL : PeL X0.heap.size X0 (.slice none 0 0) 0 (fun _ => undef) TT (fun i => peN (EE i)) CC := PeL.nil _ _ _ _ _ _
  refine wp_block ?_
  refine wp_loop (fun a W => ∃ (i : Nat) (fv : Value) (av : Value) (cw : Nat → Value), i ≤ n ∧ (a.tmps.size = 69 ∧ a.defers = []) ∧ a.eval (.tmp 0) = kv ∧ a.eval (.tmp 1) = .int .i64 q.l ∧ a.eval (.tmp 3) = cvv ∧ a.eval (.tmp 6) = .pointer (some ⟨g6, 0, none⟩) ∧ a.eval (.tmp 10) = fv ∧ a.eval (.tmp 11) = av ∧ a.eval (.tmp 12) = .int .i64 ((i : Nat) : Int) ∧ Below X0.heap.size X0 W ∧ (W.ownsRow X0.heap.size 3 1 fv (i) (Drw.intsL (i) (fun i => (((ft EE TT (wAll (esL wn nu lw t))) i : Nat) : Int)))) ∧ (PeL X0.heap.size W av (i) cw TT (fun i => peN (EE i)) CC)) (fun a _ => n - (intOf (a.eval (.tmp 12))).toNat) ⟨0, .slice none 0 0, .slice none 0 0, fun _ => undef, Nat.zero_le _, A, t0, t1, t3, t6, t10, t11, t12, BB, FI, FL⟩ ?_
  clear A t0 t1 t3 t6 t10 t11 t12 BB FI FL a
  rintro a XL4 ⟨i, fv, av, cw, hi, A, t0, t1, t3, t6, t10, t11, t12, BB, FI, FL⟩
  have esi := t12
  refine wp_seq ?_
  refine wp_seq ?_
  refine wi_ A (h7_ t0 t1 t3 t6 t10 t11 t12) (rv_ 2 (.int .i64 ((n : Nat) : Int)) (fun a ee => execLnCl (len := n) rfl (ee _) (by obtain ⟨g_, c_, e_, _⟩ := hC.shape; exact ⟨g_, c_, e_⟩)) (rv_ 3 (.bool (decide (i < n))) (fun a ee => execLtW (p := i) (q := n) rfl (ee _) (ee _)) (rf_ [(20, .bool (decide (i < n)))] (h7_ t0 t1 t3 t6 t10 t11 t12) ?_)))
  rintro a A ⟨t20, -⟩ ⟨t0, t1, t3, t6, t10, t11, t12, -⟩
  by_cases lti : i < n
  · rw [decide_eq_true lti] at t20
    refine wp_cond_true t20 ?_
    refine wp_skip ?_
    clear t20
    refine wp_seq ?_
    refine wp_block ?_
    obtain ⟨cb, co, cc, ecv, hcb, hcc⟩ := hC.open (by omega)
    have cX : ∀ X, Below X0.heap.size X0 X → X.cell? ⟨cb, co + i, none⟩ = some (xv i) := fun X hX => by rw [cell_below hX (Nat.lt_of_lt_of_le hcb BV.size), cell_below BV hcb]; exact hcc i lti
    refine wp_seq ?_
    refine wi_ A (h7_ t0 t1 t3 t6 t10 t11 t12) (rv_ 4 (.pointer (some ⟨cb, co + i, none⟩)) (fun a ee => Cf.execIdxL (k := i) rfl ((ee _).trans ecv) (ee _) lti) (rv_ 5 (xv i) (fun a ee => execL1 rfl (Or.inr (Or.inr rfl)) (ee _) (cX XL4 BB)) (rc_ 6 (hP i lti XL4 kv (BV.trans ((BB).mono BV.size)) (FK.on (BV.trans ((BB).mono BV.size)))) fun e X6_1 hh => ?_)))
    obtain ⟨cu, he, hu_, hb⟩ := hh
    refine ⟨_, he, ?_⟩
    have bQ : Below XL4.heap.size XL4 X6_1 := hb
    have FU : (X6_1.ownsRow X0.heap.size 5 1 cu (peN (EE i)) (bytesL (peN (EE i)) (CC i))) := ownW_base hu_ (BB).size
    replace FI := (ownW_below FI bQ)
    replace FL := (FL.on bQ)
    replace BB := BB.trans (bQ.mono BB.size)
    clear bQ
    obtain ⟨g13, egg13⟩ : ∃ z_ : Nat, X6_1.heap.size = z_ := ⟨_, rfl⟩
    refine rs_ 10 (fun a ee => ?_)
    refine stepV rfl rfl (execAlPe rfl) ⟨.pointer (some ⟨g13, 0, none⟩), ⟨_, rfl, by subst egg13; rfl⟩, fun X6_2 hX => ?_⟩
    have bQ : Below X6_1.heap.size X6_1 X6_2 := by subst hX egg13; exact (belNew X6_1 _)
    have Fg13 : (X6_2.heap[g13]? = some (.cells (pC (.slice none 0 0) fun _ => 0) 46)) := by subst hX egg13; exact heapNew X6_1 _
    have FgP : (X0.heap.size ≤ g13) := by subst hX egg13; exact (BB).size
    have FLn : (av.ownBlock ≠ some g13) := by subst hX egg13; exact fun q_ => Nat.lt_irrefl _ (FL.lt q_).2
    replace FI := (ownW_below FI bQ)
    replace FL := (FL.on bQ)
    replace FU := (ownW_below FU bQ)
    replace BB := BB.trans (bQ.mono BB.size)
    clear bQ hX egg13 ee a
    refine rs_ 11 (fun a ee => ?_)
    refine stepS rfl rfl (execStPe rfl (ee _) (ee _) Fg13 (own_one FU)) ⟨_, ⟨_, rfl, rfl⟩, fun X6 hX => ?_⟩
    obtain ⟨BB, FI, FL, FU, Fg13s⟩ : Below X0.heap.size X0 X6 ∧ (X6.ownsRow X0.heap.size 3 1 fv (i) (Drw.intsL (i) (fun i => (((ft EE TT (wAll (esL wn nu lw t))) i : Nat) : Int)))) ∧ (PeL X0.heap.size X6 av (i) cw TT (fun i => peN (EE i)) CC) ∧ (X6.ownsRow X0.heap.size 5 1 cu (peN (EE i)) (bytesL (peN (EE i)) (CC i))) ∧ (X6.heap[g13]? = some (.cells (pC cu (TT i)) 46)) := by subst hX; exact ⟨below4 BB FgP _, (ownG_T FI Fg13 (by decide) (grown_row Fg13)), (FL.gr (grown_row Fg13) (fun d q => by rw [Fg13] at q; cases q) FLn), (ownG_T FU Fg13 (by decide) (grown_row Fg13)), setRow_heap _ _ _ _ _ _ Fg13⟩
    clear Fg13 hX ee a
    refine rf_ [(13, .pointer (some ⟨g13, 0, none⟩)), (14, .int .i64 ((EE i : Nat) : Int))] (h7_ t0 t1 t3 t6 t10 t11 t12) ?_
    rintro a A ⟨t13, t14, -⟩ ⟨t0, t1, t3, t6, t10, t11, t12, -⟩
    refine wp_seq ?_
    refine wi_ A (h9_ t0 t1 t3 t6 t10 t11 t12 t13 t14) (rf_ [(15, .int .i64 ((0 : Nat) : Int))] (h9_ t0 t1 t3 t6 t10 t11 t12 t13 t14) ?_)
    rintro a A ⟨t15, -⟩ ⟨t0, t1, t3, t6, t10, t11, t12, t13, t14, -⟩
    refine wp_seq ?_
    refine wp_seq ?_
    by_cases hE1 : EE i ≠ 0
    · have hf : (ft EE TT (wAll (esL wn nu lw t))) i = 0 := ft_0 hE1
      refine wi_ A (h10_ t0 t1 t3 t6 t10 t11 t12 t13 t14 t15) (rv_ 1 (.bool false) (fun a ee => execDec (exIeql3 (p := ((EE i : Nat) : Int)) (q := 0) rfl (ee _) rfl) (decide_eq_false (by omega))) (rf_ [(34, .bool false)] (h9_ t0 t1 t3 t6 t10 t11 t12 t13 t15) ?_))
      rintro a A ⟨t34, -⟩ ⟨t0, t1, t3, t6, t10, t11, t12, t13, t15, -⟩
      refine wp_cond_false t34 ?_
      refine wp_skip ?_
      clear t34
      replace t15 := t15.trans (show Value.int .i64 ((0 : Nat) : Int) = .int .i64 (((ft EE TT (wAll (esL wn nu lw t))) i : Nat) : Int) by rw [hf])
      refine wp_seq ?_
      obtain ⟨g61, egg61⟩ : ∃ z_ : Nat, X6.heap.size = z_ := ⟨_, rfl⟩
      refine wi_ A (h9_ t0 t1 t3 t6 t10 t11 t12 t13 t15) (rs_ 2 (fun a ee => ?_))
      refine stepV rfl rfl (Drw.execBsI (z := (((ft EE TT (wAll (esL wn nu lw t))) i : Nat) : Int)) rfl (ee _)) ⟨.slice (some ⟨g61, 0, none⟩) 1 1, ⟨_, rfl, by subst egg61; rfl⟩, fun X17_1 hX => ?_⟩
      have bQ : Below X6.heap.size X6 X17_1 := by subst hX egg61; exact (belNew X6 _)
      have Fg61 : (X17_1.heap[g61]? = some (.cells #[.int .i64 (((ft EE TT (wAll (esL wn nu lw t))) i : Nat) : Int)] 3)) := by subst hX egg61; exact heapNew X6 _
      replace FI := (ownW_below FI bQ)
      replace FL := (FL.on bQ)
      replace FU := (ownW_below FU bQ)
      replace Fg13s := (on9 Fg13s bQ)
      replace BB := BB.trans (bQ.mono BB.size)
      clear bQ hX egg61 ee a
      refine rs_ 3 (fun a ee => ?_)
      refine Drw.stepAppI (f := fun i => (((ft EE TT (wAll (esL wn nu lw t))) i : Nat) : Int)) rfl rfl rfl (ee _) (ee _) FI Fg61 (by omega) (BB).size fun fv2 X17 own' gr => ⟨_, ⟨_, rfl, rfl⟩, eqw ?_⟩
      obtain ⟨BB, FL, FU, Fg13s, FIn⟩ : Below X0.heap.size X0 X17 ∧ (PeL X0.heap.size X17 av (i) cw TT (fun i => peN (EE i)) CC) ∧ (X17.ownsRow X0.heap.size 5 1 cu (peN (EE i)) (bytesL (peN (EE i)) (CC i))) ∧ (X17.heap[g13]? = some (.cells (pC cu (TT i)) 46)) ∧ (X17.ownsRow X0.heap.size 3 1 fv2 (i + 1) (Drw.intsL (i + 1) (fun i => (((ft EE TT (wAll (esL wn nu lw t))) i : Nat) : Int)))) := ⟨(BB).grown gr (BB).size (fun k hk => (ownI_lt FI hk).1), (FL.over FI gr (by decide)), (ownG FU gr (fun b hb e => by obtain ⟨_, c1, q1⟩ := own_blk FU hb; obtain ⟨_, c2, q2⟩ := own_blk FI e; rw [q1] at q2; cases q2)), (by rw [gr.block _ (Array.getElem?_eq_some_iff.1 Fg13s).1 (fun e => by obtain ⟨_, c2, q2⟩ := own_blk FI e.symm; rw [Fg13s] at q2; cases q2)]; exact Fg13s), own'⟩
      clear FI Fg61 ee a
      refine rf_ [(10, fv2)] (h7_ t0 t1 t3 t6 t11 t12 t13) ?_
      rintro a A ⟨t10, -⟩ ⟨t0, t1, t3, t6, t11, t12, t13, -⟩
      obtain ⟨g65, egg65⟩ : ∃ z_ : Nat, X17.heap.size = z_ := ⟨_, rfl⟩
      refine wi_ A (h8_ t0 t1 t3 t6 t11 t12 t13 t10) (rv_ 1 (.agg (pC cu (TT i))) (fun a ee => execLdPe rfl (ee _) (fun j_ _ => by rw [cell_of_row _ _ _ _ _ _ Fg13s, Nat.zero_add])) (rs_ 2 (fun a ee => ?_)))
      refine stepV rfl rfl (execBsP rfl (ee _)) ⟨.slice (some ⟨g65, 0, none⟩) 1 1, ⟨_, rfl, by subst egg65; rfl⟩, fun X18_1 hX => ?_⟩
      have bQ : Below X17.heap.size X17 X18_1 := by subst hX egg65; exact (belNew X17 _)
      have Fg65 : (X18_1.heap[g65]? = some (.cells (pC cu (TT i)) 46)) := by subst hX egg65; exact heapNew X17 _
      replace FL := (FL.on bQ)
      replace FU := (ownW_below FU bQ)
      replace Fg13s := (on9 Fg13s bQ)
      replace FIn := (ownW_below FIn bQ)
      replace BB := BB.trans (bQ.mono BB.size)
      clear bQ hX egg65 ee a
      refine rs_ 3 (fun a ee => ?_)
      refine stepAppP (k := i) (u := cu) rfl rfl rfl (ee _) (ee _) FL Fg65 FU (by omega) (BB).size fun v2 X18 own' gr => ⟨_, ⟨_, rfl, rfl⟩, eqw ?_⟩
      obtain ⟨BB, FU, FIn, FLn2⟩ : Below X0.heap.size X0 X18 ∧ (X18.ownsRow X0.heap.size 5 1 cu (peN (EE i)) (bytesL (peN (EE i)) (CC i))) ∧ (X18.ownsRow X0.heap.size 3 1 fv2 (i + 1) (Drw.intsL (i + 1) (fun i => (((ft EE TT (wAll (esL wn nu lw t))) i : Nat) : Int)))) ∧ (PeL X0.heap.size X18 v2 (i + 1) (cvx cw (i) cu) TT (fun i => peN (EE i)) CC) := ⟨(BB).grown gr (BB).size (fun b hb => (FL.lt hb).1), (own5_grown FU FL.own (by decide) gr), (ownG FIn gr (fun b hb e => by obtain ⟨_, c1, q1⟩ := own_blk FIn hb; obtain ⟨_, c2, q2⟩ := own_blk FL.own e; rw [q1] at q2; cases q2)), own'⟩
      clear FL FLn Fg13s Fg65 ee a
      refine rf_ [(11, v2)] (h6_ t0 t1 t3 t6 t10 t12) ?_
      rintro a A ⟨t11, -⟩ ⟨t0, t1, t3, t6, t10, t12, -⟩
      refine wi_ A (h7_ t0 t1 t3 t6 t10 t12 t11) (rv_ 1 (.int .i64 ((i + 1 : Nat) : Int)) (fun a ee => execAd8 (p := i) (q := 1) rfl (ee _) rfl (by omega)) (rf_ [(12, .int .i64 ((i + 1 : Nat) : Int))] (h6_ t0 t1 t3 t6 t10 t11) ?_))
      rintro a A ⟨t12, -⟩ ⟨t0, t1, t3, t6, t10, t11, -⟩
      exact ⟨⟨i + 1, fv2, v2, (cvx cw (i) cu), lti, A, t0, t1, t3, t6, t10, t11, t12, BB, FIn, FLn2⟩, by show n - (intOf (a.eval (.tmp 12))).toNat < n - (intOf (Act.eval _ (.tmp 12))).toNat; rw [t12, esi]; show n - (i + 1) < n - i; omega⟩
    have hE2 := Classical.not_not.1 hE1
    refine wi_ A (h10_ t0 t1 t3 t6 t10 t11 t12 t13 t14 t15) (rv_ 1 (.bool true) (fun a ee => execDec (exIeql3 (p := ((EE i : Nat) : Int)) (q := 0) rfl (ee _) rfl) (decide_eq_true (by omega))) (rf_ [(34, .bool true)] (h8_ t0 t1 t3 t6 t10 t11 t12 t13) ?_))
    rintro a A ⟨t34, -⟩ ⟨t0, t1, t3, t6, t10, t11, t12, t13, -⟩
    refine wp_cond_true t34 ?_
    clear t34
    refine wp_seq ?_
    refine wi_ A (h8_ t0 t1 t3 t6 t10 t11 t12 t13) (rf_ [(15, .int .i64 ((2 : Nat) : Int))] (h8_ t0 t1 t3 t6 t10 t11 t12 t13) ?_)
    rintro a A ⟨t15, -⟩ ⟨t0, t1, t3, t6, t10, t11, t12, t13, -⟩
    refine wp_seq ?_
    refine wp_seq ?_
    by_cases hA : decide (tv (TT i) 16 ∈ (wAll (esL wn nu lw t))) = true
    · refine wi_ A (h9_ t0 t1 t3 t6 t10 t11 t12 t13 t15) (rv_ 0 (.agg (wC nw ev)) (fun a ee => execLdWn rfl (ee _) (on9 Fg6 BB)) (rv_ 1 (.pointer (some ⟨g13, 0 + 1, none⟩)) (fun a ee => execFP rfl (ee _)) (rv_ 2 (.agg (bA 16 (TT i))) (fun a ee => execLdT rfl (ee _) (fun j_ hj_ => by rw [cell_of_row _ _ _ _ _ _ Fg13s, Nat.zero_add]; exact pC_r _ _ hj_)) (rc_ 3 ((hA ▸ rhas16 nw ev wn nu tw lw t (TT i) X6 (hTb i) (hW.on (BV.trans ((BB).mono BV.size))).eps hW.n63)) (cb_ fun X10 bQ => ?_)))))
      replace FI := (ownW_below FI bQ)
      replace FL := (FL.on bQ)
      replace FU := (ownW_below FU bQ)
      replace Fg13s := (on9 Fg13s bQ)
      replace BB := BB.trans (bQ.mono BB.size)
      clear bQ
      refine rf_ [(38, .bool true)] (h9_ t0 t1 t3 t6 t10 t11 t12 t13 t15) ?_
      rintro a A ⟨t38, -⟩ ⟨t0, t1, t3, t6, t10, t11, t12, t13, t15, -⟩
      refine wp_cond_true t38 ?_
      clear t38
      refine wi_ A (h9_ t0 t1 t3 t6 t10 t11 t12 t13 t15) (rf_ [(15, .int .i64 ((1 : Nat) : Int))] (h8_ t0 t1 t3 t6 t10 t11 t12 t13) ?_)
      rintro a A ⟨t15, -⟩ ⟨t0, t1, t3, t6, t10, t11, t12, t13, -⟩
      replace t15 := t15.trans (show Value.int .i64 ((1 : Nat) : Int) = .int .i64 ((fz EE TT (wAll (esL wn nu lw t)) i 0 : Nat) : Int) by rw [fz_in hA])
      refine wp_seq ?_
      refine wi_ A (h9_ t0 t1 t3 t6 t10 t11 t12 t13 t15) (rf_ [(16, .int .i64 ((0 : Nat) : Int))] (h9_ t0 t1 t3 t6 t10 t11 t12 t13 t15) ?_)
      rintro a A ⟨t16, -⟩ ⟨t0, t1, t3, t6, t10, t11, t12, t13, t15, -⟩
      refine wp_block ?_
      refine wp_loop (fun a W => ∃ (j : Nat), j ≤ i ∧ (a.tmps.size = 69 ∧ a.defers = []) ∧ a.eval (.tmp 0) = kv ∧ a.eval (.tmp 1) = .int .i64 q.l ∧ a.eval (.tmp 3) = cvv ∧ a.eval (.tmp 6) = .pointer (some ⟨g6, 0, none⟩) ∧ a.eval (.tmp 10) = fv ∧ a.eval (.tmp 11) = av ∧ a.eval (.tmp 12) = .int .i64 ((i : Nat) : Int) ∧ a.eval (.tmp 13) = .pointer (some ⟨g13, 0, none⟩) ∧ a.eval (.tmp 15) = .int .i64 ((fz EE TT (wAll (esL wn nu lw t)) i j : Nat) : Int) ∧ a.eval (.tmp 16) = .int .i64 ((j : Nat) : Int) ∧ Below X0.heap.size X0 W ∧ (W.ownsRow X0.heap.size 3 1 fv (i) (Drw.intsL (i) (fun i => (((ft EE TT (wAll (esL wn nu lw t))) i : Nat) : Int)))) ∧ (PeL X0.heap.size W av (i) cw TT (fun i => peN (EE i)) CC) ∧ (W.heap[g13]? = some (.cells (pC cu (TT i)) 46)) ∧ (W.ownsRow X0.heap.size 5 1 cu (peN (EE i)) (bytesL (peN (EE i)) (CC i)))) (fun a _ => i - (intOf (a.eval (.tmp 16))).toNat) ⟨0, Nat.zero_le _, A, t0, t1, t3, t6, t10, t11, t12, t13, t15, t16, BB, FI, FL, Fg13s, FU⟩ ?_
      clear A t0 t1 t3 t6 t10 t11 t12 t13 t15 t16 BB FI FL Fg13s FU a
      rintro a XL13 ⟨j, hj, A, t0, t1, t3, t6, t10, t11, t12, t13, t15, t16, BB, FI, FL, Fg13s, FU⟩
      have esj := t16
      refine wp_seq ?_
      refine wp_seq ?_
      refine wi_ A (h10_ t0 t1 t3 t6 t10 t11 t12 t13 t15 t16) (rv_ 2 (.bool (decide (j < i))) (fun a ee => execLtW (p := j) (q := i) rfl (ee _) (ee _)) (rf_ [(41, .bool (decide (j < i)))] (h10_ t0 t1 t3 t6 t10 t11 t12 t13 t15 t16) ?_))
      rintro a A ⟨t41, -⟩ ⟨t0, t1, t3, t6, t10, t11, t12, t13, t15, t16, -⟩
      by_cases ltj : j < i
      · rw [decide_eq_true ltj] at t41
        refine wp_cond_true t41 ?_
        refine wp_skip ?_
        clear t41
        refine wp_seq ?_
        refine wp_block ?_
        obtain ⟨fb, fcap, efv, FIo⟩ := own_openI FI (by omega)
        obtain ⟨ab, acap, eav, _, hab, hac⟩ := FL.at (by omega)
        have FLo := And.intro hab hac
        by_cases hj0 : EE j = 0
        · have hp : (((ft EE TT (wAll (esL wn nu lw t))) j : Nat) : Int) > 0 := ft_pos hj0
          by_cases ht : tv (TT j) 16 = tv (TT i) 16
          · refine wp_seq ?_
            refine wj_ [0, 1, 2, 3, 4, 5, 6, 7, 8, 9, 10, 11, 12, 13, 14] [] [3, 10, 12] [] A (h10_ t0 t1 t3 t6 t10 t11 t12 t13 t15 t16) (fun X15 bD => ?_)
            refine dw_ 2 (.pointer (some ⟨fb, 0 + j, none⟩)) (fun a X ee => Drw.execIdxN (k := j) rfl ((ee _).trans efv) (ee _) (by omega)) (dv_ 3 (.int .i64 (((ft EE TT (wAll (esL wn nu lw t))) j : Nat) : Int)) (fun a X ee hb => execL1 rfl (Or.inl rfl) (ee _) ((rdI_on FIo hb).2 j (by omega))) (dw_ 4 (.bool true) (fun a X ee => execDec (exIgtr3 (p := (((ft EE TT (wAll (esL wn nu lw t))) j : Nat) : Int)) (q := 0) rfl (ee _) rfl) (decide_eq_true hp)) (dw_ 8 (.pointer (some ⟨ab, j * 17, none⟩)) (fun a X ee => execIxPe (k := j) rfl ((ee _).trans eav) (ee _) (by omega)) (dw_ 9 (.pointer (some ⟨ab, j * 17 + 1, none⟩)) (fun a X ee => execFP rfl (ee _)) (dv_ 10 (.agg (bA 16 (TT j))) (fun a X ee hb => execLdT rfl (ee _) (fun j_ hj_ => by rw [Nat.add_assoc, (rdP_on FLo hb).2 j (by omega) (1 + j_) (by omega)]; exact pC_r _ _ hj_)) (dw_ 11 (.pointer (some ⟨g13, 0 + 1, none⟩)) (fun a X ee => execFP rfl (ee _)) (dv_ 12 (.agg (bA 16 (TT i))) (fun a X ee hb => execLdT rfl (ee _) (fun j_ hj_ => by rw [cell_of_row _ _ _ _ _ _ (on9 Fg13s hb), Nat.zero_add]; exact pC_r _ _ hj_)) (dw_ 13 (.bool true) (fun a X ee => execeql16t rfl (ee _) (ee _) (by rw [eqB_tv (hTb j) (hTb i)]; exact decide_eq_true ht)) (dz_ [(58, .bool true)] (h10_ t0 t1 t3 t6 t10 t11 t12 t13 t15 t16) ?_)))))))))
            rintro a A ⟨t58, -⟩ ⟨t0, t1, t3, t6, t10, t11, t12, t13, t15, t16, -⟩
            replace FI := (ownW_below FI bD)
            replace FL := (FL.on bD)
            replace Fg13s := (on9 Fg13s bD)
            replace FU := (ownW_below FU bD)
            replace FIo := (rdI_on FIo bD)
            replace FLo := (rdP_on FLo bD)
            replace BB := BB.trans (bD.mono BB.size)
            clear bD
            refine wp_cond_true t58 ?_
            clear t58
            refine wi_ A (h10_ t0 t1 t3 t6 t10 t11 t12 t13 t15 t16) (rf_ [(15, .int .i64 ((1 : Nat) : Int))] (h9_ t0 t1 t3 t6 t10 t11 t12 t13 t16) ?_)
            rintro a A ⟨t15, -⟩ ⟨t0, t1, t3, t6, t10, t11, t12, t13, t16, -⟩
            refine wi_ A (h10_ t0 t1 t3 t6 t10 t11 t12 t13 t15 t16) (rv_ 1 (.int .i64 ((j + 1 : Nat) : Int)) (fun a ee => execAd8 (p := j) (q := 1) rfl (ee _) rfl (by omega)) (rf_ [(16, .int .i64 ((j + 1 : Nat) : Int))] (h9_ t0 t1 t3 t6 t10 t11 t12 t13 t15) ?_))
            rintro a A ⟨t16, -⟩ ⟨t0, t1, t3, t6, t10, t11, t12, t13, t15, -⟩
            exact ⟨⟨j + 1, ltj, A, t0, t1, t3, t6, t10, t11, t12, t13, (t15.trans (by rw [fz_y ⟨hj0, ht⟩])), t16, BB, FI, FL, Fg13s, FU⟩, by show i - (intOf (a.eval (.tmp 16))).toNat < i - (intOf (Act.eval _ (.tmp 16))).toNat; rw [t16, esj]; show i - (j + 1) < i - j; omega⟩
          · have hnn : ¬ (EE j = 0 ∧ tv (TT j) 16 = tv (TT i) 16) := fun z_ => ht z_.2
            refine wp_seq ?_
            refine wj_ [0, 1, 2, 3, 4, 5, 6, 7, 8, 9, 10, 11, 12, 13, 14] [] [3, 10, 12] [] A (h10_ t0 t1 t3 t6 t10 t11 t12 t13 t15 t16) (fun X15 bD => ?_)
            refine dw_ 2 (.pointer (some ⟨fb, 0 + j, none⟩)) (fun a X ee => Drw.execIdxN (k := j) rfl ((ee _).trans efv) (ee _) (by omega)) (dv_ 3 (.int .i64 (((ft EE TT (wAll (esL wn nu lw t))) j : Nat) : Int)) (fun a X ee hb => execL1 rfl (Or.inl rfl) (ee _) ((rdI_on FIo hb).2 j (by omega))) (dw_ 4 (.bool true) (fun a X ee => execDec (exIgtr3 (p := (((ft EE TT (wAll (esL wn nu lw t))) j : Nat) : Int)) (q := 0) rfl (ee _) rfl) (decide_eq_true hp)) (dw_ 8 (.pointer (some ⟨ab, j * 17, none⟩)) (fun a X ee => execIxPe (k := j) rfl ((ee _).trans eav) (ee _) (by omega)) (dw_ 9 (.pointer (some ⟨ab, j * 17 + 1, none⟩)) (fun a X ee => execFP rfl (ee _)) (dv_ 10 (.agg (bA 16 (TT j))) (fun a X ee hb => execLdT rfl (ee _) (fun j_ hj_ => by rw [Nat.add_assoc, (rdP_on FLo hb).2 j (by omega) (1 + j_) (by omega)]; exact pC_r _ _ hj_)) (dw_ 11 (.pointer (some ⟨g13, 0 + 1, none⟩)) (fun a X ee => execFP rfl (ee _)) (dv_ 12 (.agg (bA 16 (TT i))) (fun a X ee hb => execLdT rfl (ee _) (fun j_ hj_ => by rw [cell_of_row _ _ _ _ _ _ (on9 Fg13s hb), Nat.zero_add]; exact pC_r _ _ hj_)) (dw_ 13 (.bool false) (fun a X ee => execeql16f rfl (ee _) (ee _) (by rw [eqB_tv (hTb j) (hTb i)]; exact decide_eq_false ht)) (dz_ [(58, .bool false)] (h10_ t0 t1 t3 t6 t10 t11 t12 t13 t15 t16) ?_)))))))))
            rintro a A ⟨t58, -⟩ ⟨t0, t1, t3, t6, t10, t11, t12, t13, t15, t16, -⟩
            replace FI := (ownW_below FI bD)
            replace FL := (FL.on bD)
            replace Fg13s := (on9 Fg13s bD)
            replace FU := (ownW_below FU bD)
            replace FIo := (rdI_on FIo bD)
            replace FLo := (rdP_on FLo bD)
            replace BB := BB.trans (bD.mono BB.size)
            clear bD
            refine wp_cond_false t58 ?_
            refine wp_skip ?_
            clear t58
            refine wi_ A (h10_ t0 t1 t3 t6 t10 t11 t12 t13 t15 t16) (rv_ 1 (.int .i64 ((j + 1 : Nat) : Int)) (fun a ee => execAd8 (p := j) (q := 1) rfl (ee _) rfl (by omega)) (rf_ [(16, .int .i64 ((j + 1 : Nat) : Int))] (h9_ t0 t1 t3 t6 t10 t11 t12 t13 t15) ?_))
            rintro a A ⟨t16, -⟩ ⟨t0, t1, t3, t6, t10, t11, t12, t13, t15, -⟩
            exact ⟨⟨j + 1, ltj, A, t0, t1, t3, t6, t10, t11, t12, t13, (t15.trans (by rw [fz_n hnn])), t16, BB, FI, FL, Fg13s, FU⟩, by show i - (intOf (a.eval (.tmp 16))).toNat < i - (intOf (Act.eval _ (.tmp 16))).toNat; rw [t16, esj]; show i - (j + 1) < i - j; omega⟩
        · have hp : ¬ (((ft EE TT (wAll (esL wn nu lw t))) j : Nat) : Int) > 0 := by rw [ft_0 hj0]; decide
          have hnn : ¬ (EE j = 0 ∧ tv (TT j) 16 = tv (TT i) 16) := fun z_ => hj0 z_.1
          refine wp_seq ?_
          refine wj_ [0, 1, 2, 3, 4, 5, 6, 7, 8, 9, 10, 11, 12, 13, 14] [] [3] [] A (h10_ t0 t1 t3 t6 t10 t11 t12 t13 t15 t16) (fun X15 bD => ?_)
          refine dw_ 2 (.pointer (some ⟨fb, 0 + j, none⟩)) (fun a X ee => Drw.execIdxN (k := j) rfl ((ee _).trans efv) (ee _) (by omega)) (dv_ 3 (.int .i64 (((ft EE TT (wAll (esL wn nu lw t))) j : Nat) : Int)) (fun a X ee hb => execL1 rfl (Or.inl rfl) (ee _) ((rdI_on FIo hb).2 j (by omega))) (dw_ 4 (.bool false) (fun a X ee => execDec (exIgtr3 (p := (((ft EE TT (wAll (esL wn nu lw t))) j : Nat) : Int)) (q := 0) rfl (ee _) rfl) (decide_eq_false hp)) (dz_ [(58, .bool false)] (h10_ t0 t1 t3 t6 t10 t11 t12 t13 t15 t16) ?_)))
          rintro a A ⟨t58, -⟩ ⟨t0, t1, t3, t6, t10, t11, t12, t13, t15, t16, -⟩
          replace FI := (ownW_below FI bD)
          replace FL := (FL.on bD)
          replace Fg13s := (on9 Fg13s bD)
          replace FU := (ownW_below FU bD)
          replace FIo := (rdI_on FIo bD)
          replace FLo := (rdP_on FLo bD)
          replace BB := BB.trans (bD.mono BB.size)
          clear bD
          refine wp_cond_false t58 ?_
          refine wp_skip ?_
          clear t58
          refine wi_ A (h10_ t0 t1 t3 t6 t10 t11 t12 t13 t15 t16) (rv_ 1 (.int .i64 ((j + 1 : Nat) : Int)) (fun a ee => execAd8 (p := j) (q := 1) rfl (ee _) rfl (by omega)) (rf_ [(16, .int .i64 ((j + 1 : Nat) : Int))] (h9_ t0 t1 t3 t6 t10 t11 t12 t13 t15) ?_))
          rintro a A ⟨t16, -⟩ ⟨t0, t1, t3, t6, t10, t11, t12, t13, t15, -⟩
          exact ⟨⟨j + 1, ltj, A, t0, t1, t3, t6, t10, t11, t12, t13, (t15.trans (by rw [fz_n hnn])), t16, BB, FI, FL, Fg13s, FU⟩, by show i - (intOf (a.eval (.tmp 16))).toNat < i - (intOf (Act.eval _ (.tmp 16))).toNat; rw [t16, esj]; show i - (j + 1) < i - j; omega⟩
      · rw [decide_eq_false ltj] at t41
        refine wp_cond_false t41 ?_
        refine wp_exit ?_
        first | with_reducible refine exit_in ?_ | with_reducible refine exit_then (exit_in ?_) | with_reducible refine exit_then (exit_then (exit_in ?_)) | refine exit_in ?_ | refine exit_then (exit_in ?_) | refine exit_then (exit_then (exit_in ?_))
        clear t41 esj
        have ejn : j = i := by omega
        rw [ejn, fz_end hE2] at t15
        refine wp_seq ?_
        obtain ⟨g61, egg61⟩ : ∃ z_ : Nat, XL13.heap.size = z_ := ⟨_, rfl⟩
        refine wi_ A (h9_ t0 t1 t3 t6 t10 t11 t12 t13 t15) (rs_ 2 (fun a ee => ?_))
        refine stepV rfl rfl (Drw.execBsI (z := (((ft EE TT (wAll (esL wn nu lw t))) i : Nat) : Int)) rfl (ee _)) ⟨.slice (some ⟨g61, 0, none⟩) 1 1, ⟨_, rfl, by subst egg61; rfl⟩, fun X17_1 hX => ?_⟩
        have bQ : Below XL13.heap.size XL13 X17_1 := by subst hX egg61; exact (belNew XL13 _)
        have Fg61 : (X17_1.heap[g61]? = some (.cells #[.int .i64 (((ft EE TT (wAll (esL wn nu lw t))) i : Nat) : Int)] 3)) := by subst hX egg61; exact heapNew XL13 _
        replace FI := (ownW_below FI bQ)
        replace FL := (FL.on bQ)
        replace Fg13s := (on9 Fg13s bQ)
        replace FU := (ownW_below FU bQ)
        replace BB := BB.trans (bQ.mono BB.size)
        clear bQ hX egg61 ee a
        refine rs_ 3 (fun a ee => ?_)
        refine Drw.stepAppI (f := fun i => (((ft EE TT (wAll (esL wn nu lw t))) i : Nat) : Int)) rfl rfl rfl (ee _) (ee _) FI Fg61 (by omega) (BB).size fun fv2 X17 own' gr => ⟨_, ⟨_, rfl, rfl⟩, eqw ?_⟩
        obtain ⟨BB, FL, Fg13s, FU, FIn⟩ : Below X0.heap.size X0 X17 ∧ (PeL X0.heap.size X17 av (i) cw TT (fun i => peN (EE i)) CC) ∧ (X17.heap[g13]? = some (.cells (pC cu (TT i)) 46)) ∧ (X17.ownsRow X0.heap.size 5 1 cu (peN (EE i)) (bytesL (peN (EE i)) (CC i))) ∧ (X17.ownsRow X0.heap.size 3 1 fv2 (i + 1) (Drw.intsL (i + 1) (fun i => (((ft EE TT (wAll (esL wn nu lw t))) i : Nat) : Int)))) := ⟨(BB).grown gr (BB).size (fun k hk => (ownI_lt FI hk).1), (FL.over FI gr (by decide)), (by rw [gr.block _ (Array.getElem?_eq_some_iff.1 Fg13s).1 (fun e => by obtain ⟨_, c2, q2⟩ := own_blk FI e.symm; rw [Fg13s] at q2; cases q2)]; exact Fg13s), (ownG FU gr (fun b hb e => by obtain ⟨_, c1, q1⟩ := own_blk FU hb; obtain ⟨_, c2, q2⟩ := own_blk FI e; rw [q1] at q2; cases q2)), own'⟩
        clear FI Fg61 ee a
        refine rf_ [(10, fv2)] (h7_ t0 t1 t3 t6 t11 t12 t13) ?_
        rintro a A ⟨t10, -⟩ ⟨t0, t1, t3, t6, t11, t12, t13, -⟩
        obtain ⟨g65, egg65⟩ : ∃ z_ : Nat, X17.heap.size = z_ := ⟨_, rfl⟩
        refine wi_ A (h8_ t0 t1 t3 t6 t11 t12 t13 t10) (rv_ 1 (.agg (pC cu (TT i))) (fun a ee => execLdPe rfl (ee _) (fun j_ _ => by rw [cell_of_row _ _ _ _ _ _ Fg13s, Nat.zero_add])) (rs_ 2 (fun a ee => ?_)))
        refine stepV rfl rfl (execBsP rfl (ee _)) ⟨.slice (some ⟨g65, 0, none⟩) 1 1, ⟨_, rfl, by subst egg65; rfl⟩, fun X18_1 hX => ?_⟩
        have bQ : Below X17.heap.size X17 X18_1 := by subst hX egg65; exact (belNew X17 _)
        have Fg65 : (X18_1.heap[g65]? = some (.cells (pC cu (TT i)) 46)) := by subst hX egg65; exact heapNew X17 _
        replace FL := (FL.on bQ)
        replace Fg13s := (on9 Fg13s bQ)
        replace FU := (ownW_below FU bQ)
        replace FIn := (ownW_below FIn bQ)
        replace BB := BB.trans (bQ.mono BB.size)
        clear bQ hX egg65 ee a
        refine rs_ 3 (fun a ee => ?_)
        refine stepAppP (k := i) (u := cu) rfl rfl rfl (ee _) (ee _) FL Fg65 FU (by omega) (BB).size fun v2 X18 own' gr => ⟨_, ⟨_, rfl, rfl⟩, eqw ?_⟩
        obtain ⟨BB, FU, FIn, FLn2⟩ : Below X0.heap.size X0 X18 ∧ (X18.ownsRow X0.heap.size 5 1 cu (peN (EE i)) (bytesL (peN (EE i)) (CC i))) ∧ (X18.ownsRow X0.heap.size 3 1 fv2 (i + 1) (Drw.intsL (i + 1) (fun i => (((ft EE TT (wAll (esL wn nu lw t))) i : Nat) : Int)))) ∧ (PeL X0.heap.size X18 v2 (i + 1) (cvx cw (i) cu) TT (fun i => peN (EE i)) CC) := ⟨(BB).grown gr (BB).size (fun b hb => (FL.lt hb).1), (own5_grown FU FL.own (by decide) gr), (ownG FIn gr (fun b hb e => by obtain ⟨_, c1, q1⟩ := own_blk FIn hb; obtain ⟨_, c2, q2⟩ := own_blk FL.own e; rw [q1] at q2; cases q2)), own'⟩
        clear FL Fg13s Fg65 ee a
        refine rf_ [(11, v2)] (h6_ t0 t1 t3 t6 t10 t12) ?_
        rintro a A ⟨t11, -⟩ ⟨t0, t1, t3, t6, t10, t12, -⟩
        refine wi_ A (h7_ t0 t1 t3 t6 t10 t12 t11) (rv_ 1 (.int .i64 ((i + 1 : Nat) : Int)) (fun a ee => execAd8 (p := i) (q := 1) rfl (ee _) rfl (by omega)) (rf_ [(12, .int .i64 ((i + 1 : Nat) : Int))] (h6_ t0 t1 t3 t6 t10 t11) ?_))
        rintro a A ⟨t12, -⟩ ⟨t0, t1, t3, t6, t10, t11, -⟩
        exact ⟨⟨i + 1, fv2, v2, (cvx cw (i) cu), lti, A, t0, t1, t3, t6, t10, t11, t12, BB, FIn, FLn2⟩, by show n - (intOf (a.eval (.tmp 12))).toNat < n - (intOf (Act.eval _ (.tmp 12))).toNat; rw [t12, esi]; show n - (i + 1) < n - i; omega⟩
    replace hA := Bool.eq_false_iff.2 hA
    refine wi_ A (h9_ t0 t1 t3 t6 t10 t11 t12 t13 t15) (rv_ 0 (.agg (wC nw ev)) (fun a ee => execLdWn rfl (ee _) (on9 Fg6 BB)) (rv_ 1 (.pointer (some ⟨g13, 0 + 1, none⟩)) (fun a ee => execFP rfl (ee _)) (rv_ 2 (.agg (bA 16 (TT i))) (fun a ee => execLdT rfl (ee _) (fun j_ hj_ => by rw [cell_of_row _ _ _ _ _ _ Fg13s, Nat.zero_add]; exact pC_r _ _ hj_)) (rc_ 3 ((hA ▸ rhas16 nw ev wn nu tw lw t (TT i) X6 (hTb i) (hW.on (BV.trans ((BB).mono BV.size))).eps hW.n63)) (cb_ fun X10 bQ => ?_)))))
    replace FI := (ownW_below FI bQ)
    replace FL := (FL.on bQ)
    replace FU := (ownW_below FU bQ)
    replace Fg13s := (on9 Fg13s bQ)
    replace BB := BB.trans (bQ.mono BB.size)
    clear bQ
    refine rf_ [(38, .bool false)] (h9_ t0 t1 t3 t6 t10 t11 t12 t13 t15) ?_
    rintro a A ⟨t38, -⟩ ⟨t0, t1, t3, t6, t10, t11, t12, t13, t15, -⟩
    refine wp_cond_false t38 ?_
    refine wp_skip ?_
    clear t38
    replace t15 := t15.trans (show Value.int .i64 ((2 : Nat) : Int) = .int .i64 ((fz EE TT (wAll (esL wn nu lw t)) i 0 : Nat) : Int) by rw [fz_out hA])
    refine wp_seq ?_
    refine wi_ A (h9_ t0 t1 t3 t6 t10 t11 t12 t13 t15) (rf_ [(16, .int .i64 ((0 : Nat) : Int))] (h9_ t0 t1 t3 t6 t10 t11 t12 t13 t15) ?_)
    rintro a A ⟨t16, -⟩ ⟨t0, t1, t3, t6, t10, t11, t12, t13, t15, -⟩
    refine wp_block ?_
    refine wp_loop (fun a W => ∃ (j : Nat), j ≤ i ∧ (a.tmps.size = 69 ∧ a.defers = []) ∧ a.eval (.tmp 0) = kv ∧ a.eval (.tmp 1) = .int .i64 q.l ∧ a.eval (.tmp 3) = cvv ∧ a.eval (.tmp 6) = .pointer (some ⟨g6, 0, none⟩) ∧ a.eval (.tmp 10) = fv ∧ a.eval (.tmp 11) = av ∧ a.eval (.tmp 12) = .int .i64 ((i : Nat) : Int) ∧ a.eval (.tmp 13) = .pointer (some ⟨g13, 0, none⟩) ∧ a.eval (.tmp 15) = .int .i64 ((fz EE TT (wAll (esL wn nu lw t)) i j : Nat) : Int) ∧ a.eval (.tmp 16) = .int .i64 ((j : Nat) : Int) ∧ Below X0.heap.size X0 W ∧ (W.ownsRow X0.heap.size 3 1 fv (i) (Drw.intsL (i) (fun i => (((ft EE TT (wAll (esL wn nu lw t))) i : Nat) : Int)))) ∧ (PeL X0.heap.size W av (i) cw TT (fun i => peN (EE i)) CC) ∧ (W.heap[g13]? = some (.cells (pC cu (TT i)) 46)) ∧ (W.ownsRow X0.heap.size 5 1 cu (peN (EE i)) (bytesL (peN (EE i)) (CC i)))) (fun a _ => i - (intOf (a.eval (.tmp 16))).toNat) ⟨0, Nat.zero_le _, A, t0, t1, t3, t6, t10, t11, t12, t13, t15, t16, BB, FI, FL, Fg13s, FU⟩ ?_
    clear A t0 t1 t3 t6 t10 t11 t12 t13 t15 t16 BB FI FL Fg13s FU a
    rintro a XL13 ⟨j, hj, A, t0, t1, t3, t6, t10, t11, t12, t13, t15, t16, BB, FI, FL, Fg13s, FU⟩
    have esj := t16
    refine wp_seq ?_
    refine wp_seq ?_
    refine wi_ A (h10_ t0 t1 t3 t6 t10 t11 t12 t13 t15 t16) (rv_ 2 (.bool (decide (j < i))) (fun a ee => execLtW (p := j) (q := i) rfl (ee _) (ee _)) (rf_ [(41, .bool (decide (j < i)))] (h10_ t0 t1 t3 t6 t10 t11 t12 t13 t15 t16) ?_))
    rintro a A ⟨t41, -⟩ ⟨t0, t1, t3, t6, t10, t11, t12, t13, t15, t16, -⟩
    by_cases ltj : j < i
    · rw [decide_eq_true ltj] at t41
      refine wp_cond_true t41 ?_
      refine wp_skip ?_
      clear t41
      refine wp_seq ?_
      refine wp_block ?_
      obtain ⟨fb, fcap, efv, FIo⟩ := own_openI FI (by omega)
      obtain ⟨ab, acap, eav, _, hab, hac⟩ := FL.at (by omega)
      have FLo := And.intro hab hac
      by_cases hj0 : EE j = 0
      · have hp : (((ft EE TT (wAll (esL wn nu lw t))) j : Nat) : Int) > 0 := ft_pos hj0
        by_cases ht : tv (TT j) 16 = tv (TT i) 16
        · refine wp_seq ?_
          refine wj_ [0, 1, 2, 3, 4, 5, 6, 7, 8, 9, 10, 11, 12, 13, 14] [] [3, 10, 12] [] A (h10_ t0 t1 t3 t6 t10 t11 t12 t13 t15 t16) (fun X15 bD => ?_)
          refine dw_ 2 (.pointer (some ⟨fb, 0 + j, none⟩)) (fun a X ee => Drw.execIdxN (k := j) rfl ((ee _).trans efv) (ee _) (by omega)) (dv_ 3 (.int .i64 (((ft EE TT (wAll (esL wn nu lw t))) j : Nat) : Int)) (fun a X ee hb => execL1 rfl (Or.inl rfl) (ee _) ((rdI_on FIo hb).2 j (by omega))) (dw_ 4 (.bool true) (fun a X ee => execDec (exIgtr3 (p := (((ft EE TT (wAll (esL wn nu lw t))) j : Nat) : Int)) (q := 0) rfl (ee _) rfl) (decide_eq_true hp)) (dw_ 8 (.pointer (some ⟨ab, j * 17, none⟩)) (fun a X ee => execIxPe (k := j) rfl ((ee _).trans eav) (ee _) (by omega)) (dw_ 9 (.pointer (some ⟨ab, j * 17 + 1, none⟩)) (fun a X ee => execFP rfl (ee _)) (dv_ 10 (.agg (bA 16 (TT j))) (fun a X ee hb => execLdT rfl (ee _) (fun j_ hj_ => by rw [Nat.add_assoc, (rdP_on FLo hb).2 j (by omega) (1 + j_) (by omega)]; exact pC_r _ _ hj_)) (dw_ 11 (.pointer (some ⟨g13, 0 + 1, none⟩)) (fun a X ee => execFP rfl (ee _)) (dv_ 12 (.agg (bA 16 (TT i))) (fun a X ee hb => execLdT rfl (ee _) (fun j_ hj_ => by rw [cell_of_row _ _ _ _ _ _ (on9 Fg13s hb), Nat.zero_add]; exact pC_r _ _ hj_)) (dw_ 13 (.bool true) (fun a X ee => execeql16t rfl (ee _) (ee _) (by rw [eqB_tv (hTb j) (hTb i)]; exact decide_eq_true ht)) (dz_ [(58, .bool true)] (h10_ t0 t1 t3 t6 t10 t11 t12 t13 t15 t16) ?_)))))))))
          rintro a A ⟨t58, -⟩ ⟨t0, t1, t3, t6, t10, t11, t12, t13, t15, t16, -⟩
          replace FI := (ownW_below FI bD)
          replace FL := (FL.on bD)
          replace Fg13s := (on9 Fg13s bD)
          replace FU := (ownW_below FU bD)
          replace FIo := (rdI_on FIo bD)
          replace FLo := (rdP_on FLo bD)
          replace BB := BB.trans (bD.mono BB.size)
          clear bD
          refine wp_cond_true t58 ?_
          clear t58
          refine wi_ A (h10_ t0 t1 t3 t6 t10 t11 t12 t13 t15 t16) (rf_ [(15, .int .i64 ((1 : Nat) : Int))] (h9_ t0 t1 t3 t6 t10 t11 t12 t13 t16) ?_)
          rintro a A ⟨t15, -⟩ ⟨t0, t1, t3, t6, t10, t11, t12, t13, t16, -⟩
          refine wi_ A (h10_ t0 t1 t3 t6 t10 t11 t12 t13 t15 t16) (rv_ 1 (.int .i64 ((j + 1 : Nat) : Int)) (fun a ee => execAd8 (p := j) (q := 1) rfl (ee _) rfl (by omega)) (rf_ [(16, .int .i64 ((j + 1 : Nat) : Int))] (h9_ t0 t1 t3 t6 t10 t11 t12 t13 t15) ?_))
          rintro a A ⟨t16, -⟩ ⟨t0, t1, t3, t6, t10, t11, t12, t13, t15, -⟩
          exact ⟨⟨j + 1, ltj, A, t0, t1, t3, t6, t10, t11, t12, t13, (t15.trans (by rw [fz_y ⟨hj0, ht⟩])), t16, BB, FI, FL, Fg13s, FU⟩, by show i - (intOf (a.eval (.tmp 16))).toNat < i - (intOf (Act.eval _ (.tmp 16))).toNat; rw [t16, esj]; show i - (j + 1) < i - j; omega⟩
        · have hnn : ¬ (EE j = 0 ∧ tv (TT j) 16 = tv (TT i) 16) := fun z_ => ht z_.2
          refine wp_seq ?_
          refine wj_ [0, 1, 2, 3, 4, 5, 6, 7, 8, 9, 10, 11, 12, 13, 14] [] [3, 10, 12] [] A (h10_ t0 t1 t3 t6 t10 t11 t12 t13 t15 t16) (fun X15 bD => ?_)
          refine dw_ 2 (.pointer (some ⟨fb, 0 + j, none⟩)) (fun a X ee => Drw.execIdxN (k := j) rfl ((ee _).trans efv) (ee _) (by omega)) (dv_ 3 (.int .i64 (((ft EE TT (wAll (esL wn nu lw t))) j : Nat) : Int)) (fun a X ee hb => execL1 rfl (Or.inl rfl) (ee _) ((rdI_on FIo hb).2 j (by omega))) (dw_ 4 (.bool true) (fun a X ee => execDec (exIgtr3 (p := (((ft EE TT (wAll (esL wn nu lw t))) j : Nat) : Int)) (q := 0) rfl (ee _) rfl) (decide_eq_true hp)) (dw_ 8 (.pointer (some ⟨ab, j * 17, none⟩)) (fun a X ee => execIxPe (k := j) rfl ((ee _).trans eav) (ee _) (by omega)) (dw_ 9 (.pointer (some ⟨ab, j * 17 + 1, none⟩)) (fun a X ee => execFP rfl (ee _)) (dv_ 10 (.agg (bA 16 (TT j))) (fun a X ee hb => execLdT rfl (ee _) (fun j_ hj_ => by rw [Nat.add_assoc, (rdP_on FLo hb).2 j (by omega) (1 + j_) (by omega)]; exact pC_r _ _ hj_)) (dw_ 11 (.pointer (some ⟨g13, 0 + 1, none⟩)) (fun a X ee => execFP rfl (ee _)) (dv_ 12 (.agg (bA 16 (TT i))) (fun a X ee hb => execLdT rfl (ee _) (fun j_ hj_ => by rw [cell_of_row _ _ _ _ _ _ (on9 Fg13s hb), Nat.zero_add]; exact pC_r _ _ hj_)) (dw_ 13 (.bool false) (fun a X ee => execeql16f rfl (ee _) (ee _) (by rw [eqB_tv (hTb j) (hTb i)]; exact decide_eq_false ht)) (dz_ [(58, .bool false)] (h10_ t0 t1 t3 t6 t10 t11 t12 t13 t15 t16) ?_)))))))))
          rintro a A ⟨t58, -⟩ ⟨t0, t1, t3, t6, t10, t11, t12, t13, t15, t16, -⟩
          replace FI := (ownW_below FI bD)
          replace FL := (FL.on bD)
          replace Fg13s := (on9 Fg13s bD)
          replace FU := (ownW_below FU bD)
          replace FIo := (rdI_on FIo bD)
          replace FLo := (rdP_on FLo bD)
          replace BB := BB.trans (bD.mono BB.size)
          clear bD
          refine wp_cond_false t58 ?_
          refine wp_skip ?_
          clear t58
          refine wi_ A (h10_ t0 t1 t3 t6 t10 t11 t12 t13 t15 t16) (rv_ 1 (.int .i64 ((j + 1 : Nat) : Int)) (fun a ee => execAd8 (p := j) (q := 1) rfl (ee _) rfl (by omega)) (rf_ [(16, .int .i64 ((j + 1 : Nat) : Int))] (h9_ t0 t1 t3 t6 t10 t11 t12 t13 t15) ?_))
          rintro a A ⟨t16, -⟩ ⟨t0, t1, t3, t6, t10, t11, t12, t13, t15, -⟩
          exact ⟨⟨j + 1, ltj, A, t0, t1, t3, t6, t10, t11, t12, t13, (t15.trans (by rw [fz_n hnn])), t16, BB, FI, FL, Fg13s, FU⟩, by show i - (intOf (a.eval (.tmp 16))).toNat < i - (intOf (Act.eval _ (.tmp 16))).toNat; rw [t16, esj]; show i - (j + 1) < i - j; omega⟩
      · have hp : ¬ (((ft EE TT (wAll (esL wn nu lw t))) j : Nat) : Int) > 0 := by rw [ft_0 hj0]; decide
        have hnn : ¬ (EE j = 0 ∧ tv (TT j) 16 = tv (TT i) 16) := fun z_ => hj0 z_.1
        refine wp_seq ?_
        refine wj_ [0, 1, 2, 3, 4, 5, 6, 7, 8, 9, 10, 11, 12, 13, 14] [] [3] [] A (h10_ t0 t1 t3 t6 t10 t11 t12 t13 t15 t16) (fun X15 bD => ?_)
        refine dw_ 2 (.pointer (some ⟨fb, 0 + j, none⟩)) (fun a X ee => Drw.execIdxN (k := j) rfl ((ee _).trans efv) (ee _) (by omega)) (dv_ 3 (.int .i64 (((ft EE TT (wAll (esL wn nu lw t))) j : Nat) : Int)) (fun a X ee hb => execL1 rfl (Or.inl rfl) (ee _) ((rdI_on FIo hb).2 j (by omega))) (dw_ 4 (.bool false) (fun a X ee => execDec (exIgtr3 (p := (((ft EE TT (wAll (esL wn nu lw t))) j : Nat) : Int)) (q := 0) rfl (ee _) rfl) (decide_eq_false hp)) (dz_ [(58, .bool false)] (h10_ t0 t1 t3 t6 t10 t11 t12 t13 t15 t16) ?_)))
        rintro a A ⟨t58, -⟩ ⟨t0, t1, t3, t6, t10, t11, t12, t13, t15, t16, -⟩
        replace FI := (ownW_below FI bD)
        replace FL := (FL.on bD)
        replace Fg13s := (on9 Fg13s bD)
        replace FU := (ownW_below FU bD)
        replace FIo := (rdI_on FIo bD)
        replace FLo := (rdP_on FLo bD)
        replace BB := BB.trans (bD.mono BB.size)
        clear bD
        refine wp_cond_false t58 ?_
        refine wp_skip ?_
        clear t58
        refine wi_ A (h10_ t0 t1 t3 t6 t10 t11 t12 t13 t15 t16) (rv_ 1 (.int .i64 ((j + 1 : Nat) : Int)) (fun a ee => execAd8 (p := j) (q := 1) rfl (ee _) rfl (by omega)) (rf_ [(16, .int .i64 ((j + 1 : Nat) : Int))] (h9_ t0 t1 t3 t6 t10 t11 t12 t13 t15) ?_))
        rintro a A ⟨t16, -⟩ ⟨t0, t1, t3, t6, t10, t11, t12, t13, t15, -⟩
        exact ⟨⟨j + 1, ltj, A, t0, t1, t3, t6, t10, t11, t12, t13, (t15.trans (by rw [fz_n hnn])), t16, BB, FI, FL, Fg13s, FU⟩, by show i - (intOf (a.eval (.tmp 16))).toNat < i - (intOf (Act.eval _ (.tmp 16))).toNat; rw [t16, esj]; show i - (j + 1) < i - j; omega⟩
    · rw [decide_eq_false ltj] at t41
      refine wp_cond_false t41 ?_
      refine wp_exit ?_
      first | with_reducible refine exit_in ?_ | with_reducible refine exit_then (exit_in ?_) | with_reducible refine exit_then (exit_then (exit_in ?_)) | refine exit_in ?_ | refine exit_then (exit_in ?_) | refine exit_then (exit_then (exit_in ?_))
      clear t41 esj
      have ejn : j = i := by omega
      rw [ejn, fz_end hE2] at t15
      refine wp_seq ?_
      obtain ⟨g61, egg61⟩ : ∃ z_ : Nat, XL13.heap.size = z_ := ⟨_, rfl⟩
      refine wi_ A (h9_ t0 t1 t3 t6 t10 t11 t12 t13 t15) (rs_ 2 (fun a ee => ?_))
      refine stepV rfl rfl (Drw.execBsI (z := (((ft EE TT (wAll (esL wn nu lw t))) i : Nat) : Int)) rfl (ee _)) ⟨.slice (some ⟨g61, 0, none⟩) 1 1, ⟨_, rfl, by subst egg61; rfl⟩, fun X17_1 hX => ?_⟩
      have bQ : Below XL13.heap.size XL13 X17_1 := by subst hX egg61; exact (belNew XL13 _)
      have Fg61 : (X17_1.heap[g61]? = some (.cells #[.int .i64 (((ft EE TT (wAll (esL wn nu lw t))) i : Nat) : Int)] 3)) := by subst hX egg61; exact heapNew XL13 _
      replace FI := (ownW_below FI bQ)
      replace FL := (FL.on bQ)
      replace Fg13s := (on9 Fg13s bQ)
      replace FU := (ownW_below FU bQ)
      replace BB := BB.trans (bQ.mono BB.size)
      clear bQ hX egg61 ee a
      refine rs_ 3 (fun a ee => ?_)
      refine Drw.stepAppI (f := fun i => (((ft EE TT (wAll (esL wn nu lw t))) i : Nat) : Int)) rfl rfl rfl (ee _) (ee _) FI Fg61 (by omega) (BB).size fun fv2 X17 own' gr => ⟨_, ⟨_, rfl, rfl⟩, eqw ?_⟩
      obtain ⟨BB, FL, Fg13s, FU, FIn⟩ : Below X0.heap.size X0 X17 ∧ (PeL X0.heap.size X17 av (i) cw TT (fun i => peN (EE i)) CC) ∧ (X17.heap[g13]? = some (.cells (pC cu (TT i)) 46)) ∧ (X17.ownsRow X0.heap.size 5 1 cu (peN (EE i)) (bytesL (peN (EE i)) (CC i))) ∧ (X17.ownsRow X0.heap.size 3 1 fv2 (i + 1) (Drw.intsL (i + 1) (fun i => (((ft EE TT (wAll (esL wn nu lw t))) i : Nat) : Int)))) := ⟨(BB).grown gr (BB).size (fun k hk => (ownI_lt FI hk).1), (FL.over FI gr (by decide)), (by rw [gr.block _ (Array.getElem?_eq_some_iff.1 Fg13s).1 (fun e => by obtain ⟨_, c2, q2⟩ := own_blk FI e.symm; rw [Fg13s] at q2; cases q2)]; exact Fg13s), (ownG FU gr (fun b hb e => by obtain ⟨_, c1, q1⟩ := own_blk FU hb; obtain ⟨_, c2, q2⟩ := own_blk FI e; rw [q1] at q2; cases q2)), own'⟩
      clear FI Fg61 ee a
      refine rf_ [(10, fv2)] (h7_ t0 t1 t3 t6 t11 t12 t13) ?_
      rintro a A ⟨t10, -⟩ ⟨t0, t1, t3, t6, t11, t12, t13, -⟩
      obtain ⟨g65, egg65⟩ : ∃ z_ : Nat, X17.heap.size = z_ := ⟨_, rfl⟩
      refine wi_ A (h8_ t0 t1 t3 t6 t11 t12 t13 t10) (rv_ 1 (.agg (pC cu (TT i))) (fun a ee => execLdPe rfl (ee _) (fun j_ _ => by rw [cell_of_row _ _ _ _ _ _ Fg13s, Nat.zero_add])) (rs_ 2 (fun a ee => ?_)))
      refine stepV rfl rfl (execBsP rfl (ee _)) ⟨.slice (some ⟨g65, 0, none⟩) 1 1, ⟨_, rfl, by subst egg65; rfl⟩, fun X18_1 hX => ?_⟩
      have bQ : Below X17.heap.size X17 X18_1 := by subst hX egg65; exact (belNew X17 _)
      have Fg65 : (X18_1.heap[g65]? = some (.cells (pC cu (TT i)) 46)) := by subst hX egg65; exact heapNew X17 _
      replace FL := (FL.on bQ)
      replace Fg13s := (on9 Fg13s bQ)
      replace FU := (ownW_below FU bQ)
      replace FIn := (ownW_below FIn bQ)
      replace BB := BB.trans (bQ.mono BB.size)
      clear bQ hX egg65 ee a
      refine rs_ 3 (fun a ee => ?_)
      refine stepAppP (k := i) (u := cu) rfl rfl rfl (ee _) (ee _) FL Fg65 FU (by omega) (BB).size fun v2 X18 own' gr => ⟨_, ⟨_, rfl, rfl⟩, eqw ?_⟩
      obtain ⟨BB, FU, FIn, FLn2⟩ : Below X0.heap.size X0 X18 ∧ (X18.ownsRow X0.heap.size 5 1 cu (peN (EE i)) (bytesL (peN (EE i)) (CC i))) ∧ (X18.ownsRow X0.heap.size 3 1 fv2 (i + 1) (Drw.intsL (i + 1) (fun i => (((ft EE TT (wAll (esL wn nu lw t))) i : Nat) : Int)))) ∧ (PeL X0.heap.size X18 v2 (i + 1) (cvx cw (i) cu) TT (fun i => peN (EE i)) CC) := ⟨(BB).grown gr (BB).size (fun b hb => (FL.lt hb).1), (own5_grown FU FL.own (by decide) gr), (ownG FIn gr (fun b hb e => by obtain ⟨_, c1, q1⟩ := own_blk FIn hb; obtain ⟨_, c2, q2⟩ := own_blk FL.own e; rw [q1] at q2; cases q2)), own'⟩
      clear FL Fg13s Fg65 ee a
      refine rf_ [(11, v2)] (h6_ t0 t1 t3 t6 t10 t12) ?_
      rintro a A ⟨t11, -⟩ ⟨t0, t1, t3, t6, t10, t12, -⟩
      refine wi_ A (h7_ t0 t1 t3 t6 t10 t12 t11) (rv_ 1 (.int .i64 ((i + 1 : Nat) : Int)) (fun a ee => execAd8 (p := i) (q := 1) rfl (ee _) rfl (by omega)) (rf_ [(12, .int .i64 ((i + 1 : Nat) : Int))] (h6_ t0 t1 t3 t6 t10 t11) ?_))
      rintro a A ⟨t12, -⟩ ⟨t0, t1, t3, t6, t10, t11, -⟩
      exact ⟨⟨i + 1, fv2, v2, (cvx cw (i) cu), lti, A, t0, t1, t3, t6, t10, t11, t12, BB, FIn, FLn2⟩, by show n - (intOf (a.eval (.tmp 12))).toNat < n - (intOf (Act.eval _ (.tmp 12))).toNat; rw [t12, esi]; show n - (i + 1) < n - i; omega⟩
  · rw [decide_eq_false lti] at t20
    refine wp_cond_false t20 ?_
    refine wp_exit ?_
    first | with_reducible refine exit_in ?_ | with_reducible refine exit_then (exit_in ?_) | with_reducible refine exit_then (exit_then (exit_in ?_)) | refine exit_in ?_ | refine exit_then (exit_in ?_) | refine exit_then (exit_then (exit_in ?_))
    clear t20 esi
    have ein : i = n := by omega
    rw [ein] at FI FL
    replace BB := BV.trans (BB.mono BV.size)
    refine wp_seq ?_
    refine wi_ A (h2_ t10 t11) (rg_ [(8, fv), (9, av)] ?_)
    rintro a A ⟨t8, t9, -⟩
    refine wp_ret ?_
    refine bodyPost_ret (results_tmp2 rfl _ _ _) A.2 ⟨⟨fv, av, cw, ?_, ownW_base FI BV.size, FL.base BV.size⟩, BB⟩
    show Ending.returned (.tuple #[a.eval (.tmp 8), a.eval (.tmp 9)]) = _
    rw [t8, t9]
end Go.Proofs.YtejhbfbnljioeaaGreatDoor.Rnd
