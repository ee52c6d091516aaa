import Derived.Test.YtmllfmnpcidkbaaT8g
import Derived.WalkKit
namespace Go.Proofs.Ytmllfmnpcidkbaa.Loo
open Go.RowKit Gf8 Aes By8 Cel Cf Win Drw Prm
/- LoomRuns, from the tasks on. Written by tools/mkT8h.py. -/

def tkI (p : Nat → Value) (i t : Nat) : Value := if t < i then p t else .nilFunc
def mI (W : World) (v : Value) : Nat := match v with
  | .pointer (some ad) => (match W.cell? ad with
    | some (.int _ z) => z.toNat
    | _ => 0)
  | _ => 0
theorem mI_of {W : World} {g i : Nat} (h : W.heap[g]? = some (.cells #[.int .i64 ((i : Nat) : Int)] 3)) : mI W (.pointer (some ⟨g, 0, none⟩)) = i := by
  unfold mI
  simp only [one_c h, Int.toNat_natCast]
section
variable {W : World} {tb n g k : Nat} {p q : Nat → Value} {c c' : Array Value} {v : Value}
theorem TkM.row (h : TkM W tb n p q) (hg : W.heap[g]? = some (.cells c 3)) : TkM (W.setRow g c') tb n p q := by
  obtain ⟨cs, h1, h2⟩ := h
  exact ⟨cs, keepT19 h1 hg (by decide) grR19, h2⟩
theorem TkM.other (h : TkM W tb n p q) (hg : W.heap[g]? = some (.cells c 3)) : (W.setCell ⟨tb, k, none⟩ v).heap[g]? = some (.cells c 3) := by
  obtain ⟨cs, h1, h2⟩ := h
  exact keepT19 hg h1 (by decide) grC19
end
section
variable {D : Sd} {g8 g3 gi i : Nat} {gt : Nat → Nat}
theorem tk_ne {f : (Nat → Nat) → Nat → Value} (hf : ∀ gt gt' t, gt t = gt' t → f gt t = f gt' t) {t : Nat} (e : t ≠ i) : tkI (f gt) i t = tkI (f (upf gt i gi)) (i + 1) t := by
  unfold tkI
  by_cases h : t < i
  · rw [if_pos h, if_pos (by omega)]
    exact hf _ _ _ (upf_ne _ _ e).symm
  · rw [if_neg h, if_neg (by omega)]
theorem tkR_cg : ∀ gt gt' t, gt t = gt' t → tkR D g8 g3 gt t = tkR D g8 g3 gt' t := fun gt gt' t e => by unfold tkR; rw [e]
theorem tkS_cg : ∀ gt gt' t, gt t = gt' t → tkS D g8 g3 gt t = tkS D g8 g3 gt' t := fun gt gt' t e => by unfold tkS; rw [e]
theorem tkR_t (h : D.nr i = true) (t : Nat) : tkI (tkR D g8 g3 gt) i t = tkI (tkR D g8 g3 (upf gt i gi)) (i + 1) t := by
  by_cases e : t = i
  · rw [e]; unfold tkI tkR
    rw [if_neg (by omega), if_pos (by omega), if_pos h]; rfl
  · exact tk_ne tkR_cg e
theorem tkR_f (h : D.nr i = false) (t : Nat) : upf (tkI (tkR D g8 g3 gt) i) i (.func (.func rF) #[] #[.pointer (some ⟨g8, 0, none⟩), .pointer (some ⟨g3, 0, none⟩), .pointer (some ⟨gi, 0, none⟩)]) t = tkI (tkR D g8 g3 (upf gt i gi)) (i + 1) t := by
  by_cases e : t = i
  · rw [e, upf_at]; unfold tkI tkR
    rw [if_pos (by omega), if_neg (by rw [h]; decide), upf_at]; rfl
  · rw [upf_ne _ _ e]; exact tk_ne tkR_cg e
theorem tkS_t (h : D.la i = 0) (t : Nat) : tkI (tkS D g8 g3 gt) i t = tkI (tkS D g8 g3 (upf gt i gi)) (i + 1) t := by
  by_cases e : t = i
  · rw [e]; unfold tkI tkS
    rw [if_neg (by omega), if_pos (by omega), if_pos h]; rfl
  · exact tk_ne tkS_cg e
theorem tkS_f (h : D.la i ≠ 0) (t : Nat) : upf (tkI (tkS D g8 g3 gt) i) i (.func (.func sF) #[] #[.pointer (some ⟨g8, 0, none⟩), .pointer (some ⟨g3, 0, none⟩), .pointer (some ⟨gi, 0, none⟩)]) t = tkI (tkS D g8 g3 (upf gt i gi)) (i + 1) t := by
  by_cases e : t = i
  · rw [e, upf_at]; unfold tkI tkS
    rw [if_pos (by omega), if_neg h, upf_at]; rfl
  · rw [upf_ne _ _ e]; exact tk_ne tkS_cg e
end
theorem gt_on {W X : World} {B i : Nat} {gt : Nat → Nat} (h : ∀ t, t < i → W.heap[gt t]? = some (.cells #[.int .i64 ((t : Nat) : Int)] 3) ∧ B ≤ gt t) (b : Below W.heap.size W X) : ∀ t, t < i → X.heap[gt t]? = some (.cells #[.int .i64 ((t : Nat) : Int)] 3) ∧ B ≤ gt t := fun t ht => ⟨on9 (h t ht).1 b, (h t ht).2⟩
theorem nil_V {W : World} {x : Nat → Value} : SliceV W (.slice none 0 0) 0 x := ⟨_, _, rfl, fun z => absurd z (Nat.lt_irrefl 0)⟩
set_option maxRecDepth 100000 in
set_option maxHeartbeats 4000000 in
/-- LoomRuns, from the tasks on. -/
theorem runsC (V : World) (sv cv : Value) (D : Sd) (m : Nat) (sc : Nat → Int) (most : Int) (hP : ShL V sv D) (hn : D.n ≤ 1000) (hS : SliceI V cv m sc) (hmo : most ≤ 1000) : ∀ (a : Act) (S : World) (g3 g8 g9 ga gb : Nat) (pk : Value) (Fa Fb : Nat → Prop), (a.tmps.size = 93 ∧ a.defers = []) → a.eval (.tmp 1) = cv → a.eval (.tmp 2) = .int .i64 most → a.eval (.tmp 3) = .pointer (some ⟨g3, 0, none⟩) → a.eval (.tmp 7) = .pointer (some ⟨ga, 0, none⟩) → a.eval (.tmp 8) = .pointer (some ⟨g8, 0, none⟩) → a.eval (.tmp 9) = .pointer (some ⟨g9, 0, none⟩) → Rn V S g3 g8 g9 ga gb sv pk D (gO V gb g8 g3 sv D hP hn m sc most).2.2.1 (gO V gb g8 g3 sv D hP hn m sc most).1 (gE D (gO V gb g8 g3 sv D hP hn m sc most)) (gS D (gO V gb g8 g3 sv D hP hn m sc most)) Fa Fb → (findR 9 (Try.f4.body.getD .skip)).wp Try.prog (bodyPost Try.prog Try.f4 fun e w' => e = .returned (.bool true) ∧ Below V.heap.size V w') a S := by
  intro a S g3 g8 g9 ga gb pk Fa Fb A t1 t2 t3 t7 t8 t9 hR
  have hPS := hP.on hR.bel
  have BB : Below S.heap.size S S := Below.refl _ _
  refine wp_seq ?_
  obtain ⟨tb, egtb⟩ : ∃ z_ : Nat, S.heap.size = z_ := ⟨_, rfl⟩
  refine wi_ A (h6_ t1 t2 t3 t7 t8 t9) (rv_ 0 (sv) (fun a ee => execLm rfl (Or.inr (Or.inr (Or.inr (Or.inr (Or.inl rfl))))) (ee _) (one_c (hR.on BB).h3)) (rv_ 1 (.int .i64 ((D.n : Nat) : Int)) (fun a ee => execLnM (len := D.n) rfl (Or.inl rfl) (ee _) hP.shp) (rs_ 2 (fun a ee => ?_))))
  refine stepV rfl rfl (execMkTk rfl (ee _) (ee _) (by omega)) ⟨.slice (some ⟨tb, 0, none⟩) D.n D.n, ⟨_, rfl, by subst egtb; rfl⟩, fun X9 hX => ?_⟩
  have bQ : Below S.heap.size S X9 := by subst hX egtb; exact (belNew S _)
  have FT : (TkM X9 tb D.n (fun _ => .nilFunc) (fun _ => .nilFunc)) := by subst hX egtb; exact TkM.new (heapNew S _)
  have Ftb : (S.heap.size ≤ tb) := by subst hX egtb; exact (BB).size
  replace BB := BB.trans (bQ.mono BB.size)
  clear bQ hX egtb ee a
  refine rf_ [(10, .slice (some ⟨tb, 0, none⟩) D.n D.n)] (h6_ t1 t2 t3 t7 t8 t9) ?_
  rintro a A ⟨t10, -⟩ ⟨t1, t2, t3, t7, t8, t9, -⟩
  refine wp_seq ?_
  refine wp_seq ?_
  obtain ⟨gi, eggi⟩ : ∃ z_ : Nat, X9.heap.size = z_ := ⟨_, rfl⟩
  refine wi_ A (h7_ t1 t2 t3 t7 t8 t9 t10) (rs_ 0 (fun a ee => ?_))
  refine stepV rfl rfl (execAlI rfl) ⟨.pointer (some ⟨gi, 0, none⟩), ⟨_, rfl, by subst eggi; rfl⟩, fun X10_1 hX => ?_⟩
  have bQ : Below X9.heap.size X9 X10_1 := by subst hX eggi; exact (belNew X9 _)
  have FJ0 : (X10_1.heap[gi]? = some (.cells #[.int .i64 ((0 : Nat) : Int)] 3)) := by subst hX eggi; exact heapNew X9 _
  have Fge : (S.heap.size ≤ gi) := by subst hX eggi; exact (BB).size
  replace FT := (FT.on bQ)
  replace BB := BB.trans (bQ.mono BB.size)
  clear bQ hX eggi ee a
  refine rs_ 1 (fun a ee => ?_)
  refine stepS rfl rfl (execStI19 rfl (ee _) rfl FJ0) ⟨_, ⟨_, rfl, rfl⟩, fun X10 hX => ?_⟩
  obtain ⟨BB, FT, FI⟩ : Below S.heap.size S X10 ∧ (TkM X10 tb D.n (fun _ => .nilFunc) (fun _ => .nilFunc)) ∧ (X10.heap[gi]? = some (.cells #[.int .i64 ((0 : Nat) : Int)] 3)) := by subst hX; exact ⟨below4 BB Fge _, (FT.row FJ0), setRow_heap _ _ _ _ _ _ FJ0⟩
  clear FJ0 hX ee a
  refine rf_ [(11, .pointer (some ⟨gi, 0, none⟩))] (h7_ t1 t2 t3 t7 t8 t9 t10) ?_
  rintro a A ⟨t11, -⟩ ⟨t1, t2, t3, t7, t8, t9, t10, -⟩
  replace FT : TkM X10 tb D.n (tkI (tkR D g8 g3 (fun _ => 0)) 0) (tkI (tkS D g8 g3 (fun _ => 0)) 0) := FT.cg (fun t _ => (if_neg (Nat.not_lt_zero t)).symm) (fun t _ => (if_neg (Nat.not_lt_zero t)).symm)
  refine wp_block ?_
  refine wp_loop (fun a W => ∃ (i gi : Nat) (gt : Nat → Nat), i ≤ D.n ∧ S.heap.size ≤ gi ∧ (∀ t, t < i → gt t ≠ gi) ∧ (a.tmps.size = 93 ∧ a.defers = []) ∧ a.eval (.tmp 1) = cv ∧ a.eval (.tmp 2) = .int .i64 most ∧ a.eval (.tmp 3) = .pointer (some ⟨g3, 0, none⟩) ∧ a.eval (.tmp 7) = .pointer (some ⟨ga, 0, none⟩) ∧ a.eval (.tmp 8) = .pointer (some ⟨g8, 0, none⟩) ∧ a.eval (.tmp 9) = .pointer (some ⟨g9, 0, none⟩) ∧ a.eval (.tmp 10) = .slice (some ⟨tb, 0, none⟩) D.n D.n ∧ a.eval (.tmp 11) = .pointer (some ⟨gi, 0, none⟩) ∧ Below S.heap.size S W ∧ ((TkM W tb D.n (tkI (tkR D g8 g3 gt) i) (tkI (tkS D g8 g3 gt) i))) ∧ ((W.heap[gi]? = some (.cells #[.int .i64 ((i : Nat) : Int)] 3))) ∧ ((∀ t, t < i → W.heap[gt t]? = some (.cells #[.int .i64 ((t : Nat) : Int)] 3) ∧ S.heap.size ≤ gt t))) (fun a W => D.n - mI W (a.eval (.tmp 11))) ⟨0, gi, fun _ => 0, Nat.zero_le _, Fge, fun t ht => absurd ht (Nat.not_lt_zero t), A, t1, t2, t3, t7, t8, t9, t10, t11, BB, FT, FI, fun t ht => absurd ht (Nat.not_lt_zero t)⟩ ?_
  clear A t1 t2 t3 t7 t8 t9 t10 t11 BB FT FI Fge gi a
  rintro a XL ⟨i, gi, gt, hi, hgi, hij, A, t1, t2, t3, t7, t8, t9, t10, t11, BB, FT, FI, FG⟩
  have esI : mI XL (a.eval (.tmp 11)) = i := by rw [t11]; exact mI_of FI
  refine wp_seq ?_
  refine wp_seq ?_
  refine wi_ A (h8_ t1 t2 t3 t7 t8 t9 t10 t11) (rv_ 0 (.int .i64 ((i : Nat) : Int)) (fun a ee => execLm rfl (Or.inl rfl) (ee _) (one_c FI)) (rv_ 1 (sv) (fun a ee => execLm rfl (Or.inr (Or.inr (Or.inr (Or.inr (Or.inl rfl))))) (ee _) (one_c (hR.on BB).h3)) (rv_ 2 (.int .i64 ((D.n : Nat) : Int)) (fun a ee => execLnM (len := D.n) rfl (Or.inl rfl) (ee _) hP.shp) (rv_ 3 (.bool (decide (i < D.n))) (fun a ee => execLtW (p := i) (q := D.n) rfl (ee _) (ee _)) (rf_ [(49, .bool (decide (i < D.n)))] (h8_ t1 t2 t3 t7 t8 t9 t10 t11) ?_)))))
  rintro a A ⟨t49, -⟩ ⟨t1, t2, t3, t7, t8, t9, t10, t11, -⟩
  by_cases lti : i < D.n
  · rw [decide_eq_true lti] at t49
    refine wp_cond_true t49 ?_
    refine wp_skip ?_
    clear t49
    refine wp_seq ?_
    refine wp_block ?_
    obtain ⟨pb, po, pc, y_, es, hpb, hyb, hpc⟩ := hPS.at (show 0 < D.n by omega)
    have cP : ∀ X, Below S.heap.size S X → X.cell? ⟨pb, po + i * 4, none⟩ = some (y_ i) ∧ X.cell? ⟨pb, po + i * 4 + 1, none⟩ = some (.bool (D.th i)) ∧ X.cell? ⟨pb, po + i * 4 + 2, none⟩ = some (.int .i64 (D.la i)) ∧ X.cell? ⟨pb, po + i * 4 + 3, none⟩ = some (.bool (D.nr i)) := fun X hX => by
      rw [cell_below hX hpb, cell_below hX hpb, cell_below hX hpb, cell_below hX hpb]
      exact hpc i lti
    cases hnr : D.nr i with
    | true =>
      by_cases hla : D.la i = 0
      · refine wp_seq ?_
        refine wp_seq ?_
        refine wi_ A (h8_ t1 t2 t3 t7 t8 t9 t10 t11) (rv_ 0 (sv) (fun a ee => execLm rfl (Or.inr (Or.inr (Or.inr (Or.inr (Or.inl rfl))))) (ee _) (one_c (hR.on BB).h3)) (rv_ 1 (.int .i64 ((i : Nat) : Int)) (fun a ee => execLm rfl (Or.inl rfl) (ee _) (one_c FI)) (rv_ 2 (.pointer (some ⟨pb, po + i * 4, none⟩)) (fun a ee => execIxM (k := i) rfl ((ee _).trans es) (ee _) lti) (rv_ 3 (.pointer (some ⟨pb, po + i * 4 + 3, none⟩)) (fun a ee => execFm3 rfl (ee _)) (rv_ 4 (.bool true) (fun a ee => execLm rfl (Or.inr (Or.inl rfl)) (ee _) ((cP XL BB).2.2.2.trans (by rw [hnr]))) (rv_ 5 (.bool false) (fun a ee => execNot8 (b := true) rfl (ee _)) (rf_ [(57, .bool false)] (h8_ t1 t2 t3 t7 t8 t9 t10 t11) ?_)))))))
        rintro a A ⟨t57, -⟩ ⟨t1, t2, t3, t7, t8, t9, t10, t11, -⟩
        refine wp_cond_false t57 ?_
        refine wp_skip ?_
        clear t57
        refine wp_seq ?_
        refine wi_ A (h8_ t1 t2 t3 t7 t8 t9 t10 t11) (rv_ 0 (sv) (fun a ee => execLm rfl (Or.inr (Or.inr (Or.inr (Or.inr (Or.inl rfl))))) (ee _) (one_c (hR.on BB).h3)) (rv_ 1 (.int .i64 ((i : Nat) : Int)) (fun a ee => execLm rfl (Or.inl rfl) (ee _) (one_c FI)) (rv_ 2 (.pointer (some ⟨pb, po + i * 4, none⟩)) (fun a ee => execIxM (k := i) rfl ((ee _).trans es) (ee _) lti) (rv_ 3 (.pointer (some ⟨pb, po + i * 4 + 2, none⟩)) (fun a ee => execFm2 rfl (ee _)) (rv_ 4 (.int .i64 (D.la i)) (fun a ee => execLm rfl (Or.inl rfl) (ee _) (cP XL BB).2.2.1) (rv_ 5 (.bool false) (fun a ee => execDec (exIneq3 (p := (D.la i)) (q := 0) rfl (ee _) rfl) (decide_eq_false (fun h => h hla))) (rf_ [(68, .bool false)] (h8_ t1 t2 t3 t7 t8 t9 t10 t11) ?_)))))))
        rintro a A ⟨t68, -⟩ ⟨t1, t2, t3, t7, t8, t9, t10, t11, -⟩
        refine wp_cond_false t68 ?_
        refine wp_skip ?_
        clear t68
        refine wp_seq ?_
        refine wp_seq ?_
        refine wi_ A (h8_ t1 t2 t3 t7 t8 t9 t10 t11) (rv_ 0 (.int .i64 ((i : Nat) : Int)) (fun a ee => execLm rfl (Or.inl rfl) (ee _) (one_c FI)) (rf_ [(74, .int .i64 ((i : Nat) : Int))] (h8_ t1 t2 t3 t7 t8 t9 t10 t11) ?_))
        rintro a A ⟨t74, -⟩ ⟨t1, t2, t3, t7, t8, t9, t10, t11, -⟩
        replace FT : TkM XL tb D.n (tkI (tkR D g8 g3 (upf gt i gi)) (i + 1)) (tkI (tkS D g8 g3 (upf gt i gi)) (i + 1)) := FT.cg (fun t _ => tkR_t hnr t) (fun t _ => tkS_t hla t)
        replace FG : ∀ t, t < i + 1 → XL.heap[upf gt i gi t]? = some (.cells #[.int .i64 ((t : Nat) : Int)] 3) ∧ S.heap.size ≤ upf gt i gi t := fun t ht => by
          by_cases e : t = i
          · rw [e, upf_at]; exact ⟨FI, hgi⟩
          · rw [upf_ne _ _ e]; exact FG t (by omega)
        clear FI
        obtain ⟨gj, eggj⟩ : ∃ z_ : Nat, XL.heap.size = z_ := ⟨_, rfl⟩
        refine wi_ A (h9_ t1 t2 t3 t7 t8 t9 t10 t11 t74) (rs_ 0 (fun a ee => ?_))
        refine stepV rfl rfl (execAlI rfl) ⟨.pointer (some ⟨gj, 0, none⟩), ⟨_, rfl, by subst eggj; rfl⟩, fun X18_1 hX => ?_⟩
        have bQ : Below XL.heap.size XL X18_1 := by subst hX eggj; exact (belNew XL _)
        have FJ0 : (X18_1.heap[gj]? = some (.cells #[.int .i64 ((0 : Nat) : Int)] 3)) := by subst hX eggj; exact heapNew XL _
        have Fge : (S.heap.size ≤ gj) := by subst hX eggj; exact (BB).size
        have FGj : (∀ t, t < i + 1 → upf gt i gi t ≠ gj) := by subst hX eggj; exact fun t ht => Nat.ne_of_lt (Array.getElem?_eq_some_iff.1 (FG t ht).1).1
        replace FT := (FT.on bQ)
        replace FG := (gt_on FG bQ)
        replace BB := BB.trans (bQ.mono BB.size)
        clear bQ hX eggj ee a
        refine rs_ 1 (fun a ee => ?_)
        refine stepS rfl rfl (execStI19 rfl (ee _) (ee _) FJ0) ⟨_, ⟨_, rfl, rfl⟩, fun X18 hX => ?_⟩
        obtain ⟨BB, FT, FG, FJ⟩ : Below S.heap.size S X18 ∧ (TkM X18 tb D.n (tkI (tkR D g8 g3 (upf gt i gi)) (i + 1)) (tkI (tkS D g8 g3 (upf gt i gi)) (i + 1))) ∧ (∀ t, t < (i + 1) → X18.heap[(upf gt i gi) t]? = some (.cells #[.int .i64 ((t : Nat) : Int)] 3) ∧ S.heap.size ≤ (upf gt i gi) t) ∧ (X18.heap[gj]? = some (.cells #[.int .i64 ((i : Nat) : Int)] 3)) := by subst hX; exact ⟨below4 BB Fge _, (FT.row FJ0), (fun t ht => ⟨keepN19 (FG t ht).1 (FGj t ht) (grR19), (FG t ht).2⟩), setRow_heap _ _ _ _ _ _ FJ0⟩
        clear FJ0 hX ee a
        refine rf_ [(11, .pointer (some ⟨gj, 0, none⟩))] (h7_ t1 t2 t3 t7 t8 t9 t10) ?_
        rintro a A ⟨t11, -⟩ ⟨t1, t2, t3, t7, t8, t9, t10, -⟩
        refine wi_ A (h8_ t1 t2 t3 t7 t8 t9 t10 t11) (rv_ 0 (.int .i64 ((i : Nat) : Int)) (fun a ee => execLm rfl (Or.inl rfl) (ee _) (one_c FJ)) (rv_ 1 (.int .i64 ((i + 1 : Nat) : Int)) (fun a ee => execAd8 (p := i) (q := 1) rfl (ee _) rfl (by omega)) (rs_ 2 (fun a ee => ?_))))
        refine stepS rfl rfl (execStI19 rfl (ee _) (ee _) FJ) ⟨_, ⟨_, rfl, rfl⟩, fun X12 hX => ?_⟩
        obtain ⟨BB, FT, FG, FK⟩ : Below S.heap.size S X12 ∧ (TkM X12 tb D.n (tkI (tkR D g8 g3 (upf gt i gi)) (i + 1)) (tkI (tkS D g8 g3 (upf gt i gi)) (i + 1))) ∧ (∀ t, t < (i + 1) → X12.heap[(upf gt i gi) t]? = some (.cells #[.int .i64 ((t : Nat) : Int)] 3) ∧ S.heap.size ≤ (upf gt i gi) t) ∧ (X12.heap[gj]? = some (.cells #[.int .i64 (((i + 1) : Nat) : Int)] 3)) := by subst hX; exact ⟨below4 BB Fge _, (FT.row FJ), (fun t ht => ⟨keepN19 (FG t ht).1 (FGj t ht) (grR19 (g := gj)), (FG t ht).2⟩), setRow_heap _ _ _ _ _ _ FJ⟩
        clear FJ hX ee a
        refine rf_ [] (h8_ t1 t2 t3 t7 t8 t9 t10 t11) ?_
        rintro a A - ⟨t1, t2, t3, t7, t8, t9, t10, t11, -⟩
        exact ⟨⟨i + 1, gj, upf gt i gi, lti, Fge, FGj, A, t1, t2, t3, t7, t8, t9, t10, t11, BB, FT, FK, FG⟩, by show D.n - mI X12 (a.eval (.tmp 11)) < D.n - mI XL (Act.eval _ (.tmp 11)); rw [t11, mI_of FK, esI]; omega⟩
      · refine wp_seq ?_
        refine wp_seq ?_
        refine wi_ A (h8_ t1 t2 t3 t7 t8 t9 t10 t11) (rv_ 0 (sv) (fun a ee => execLm rfl (Or.inr (Or.inr (Or.inr (Or.inr (Or.inl rfl))))) (ee _) (one_c (hR.on BB).h3)) (rv_ 1 (.int .i64 ((i : Nat) : Int)) (fun a ee => execLm rfl (Or.inl rfl) (ee _) (one_c FI)) (rv_ 2 (.pointer (some ⟨pb, po + i * 4, none⟩)) (fun a ee => execIxM (k := i) rfl ((ee _).trans es) (ee _) lti) (rv_ 3 (.pointer (some ⟨pb, po + i * 4 + 3, none⟩)) (fun a ee => execFm3 rfl (ee _)) (rv_ 4 (.bool true) (fun a ee => execLm rfl (Or.inr (Or.inl rfl)) (ee _) ((cP XL BB).2.2.2.trans (by rw [hnr]))) (rv_ 5 (.bool false) (fun a ee => execNot8 (b := true) rfl (ee _)) (rf_ [(57, .bool false)] (h8_ t1 t2 t3 t7 t8 t9 t10 t11) ?_)))))))
        rintro a A ⟨t57, -⟩ ⟨t1, t2, t3, t7, t8, t9, t10, t11, -⟩
        refine wp_cond_false t57 ?_
        refine wp_skip ?_
        clear t57
        refine wp_seq ?_
        refine wi_ A (h8_ t1 t2 t3 t7 t8 t9 t10 t11) (rv_ 0 (sv) (fun a ee => execLm rfl (Or.inr (Or.inr (Or.inr (Or.inr (Or.inl rfl))))) (ee _) (one_c (hR.on BB).h3)) (rv_ 1 (.int .i64 ((i : Nat) : Int)) (fun a ee => execLm rfl (Or.inl rfl) (ee _) (one_c FI)) (rv_ 2 (.pointer (some ⟨pb, po + i * 4, none⟩)) (fun a ee => execIxM (k := i) rfl ((ee _).trans es) (ee _) lti) (rv_ 3 (.pointer (some ⟨pb, po + i * 4 + 2, none⟩)) (fun a ee => execFm2 rfl (ee _)) (rv_ 4 (.int .i64 (D.la i)) (fun a ee => execLm rfl (Or.inl rfl) (ee _) (cP XL BB).2.2.1) (rv_ 5 (.bool true) (fun a ee => execDec (exIneq3 (p := (D.la i)) (q := 0) rfl (ee _) rfl) (decide_eq_true hla)) (rf_ [(68, .bool true)] (h8_ t1 t2 t3 t7 t8 t9 t10 t11) ?_)))))))
        rintro a A ⟨t68, -⟩ ⟨t1, t2, t3, t7, t8, t9, t10, t11, -⟩
        refine wp_cond_true t68 ?_
        clear t68
        refine wi_ A (h8_ t1 t2 t3 t7 t8 t9 t10 t11) (rv_ 1 (.int .i64 ((i : Nat) : Int)) (fun a ee => execLm rfl (Or.inl rfl) (ee _) (one_c FI)) (rv_ 2 (.func (.func sF) #[] #[.pointer (some ⟨g8, 0, none⟩), .pointer (some ⟨g3, 0, none⟩), .pointer (some ⟨gi, 0, none⟩)]) (fun a ee => execMkF3 rfl (ee _) (ee _) (ee _)) (rv_ 3 (.pointer (some ⟨tb, 0 + i * 2, none⟩)) (fun a ee => execIxQ (k := i) rfl (ee _) (ee _) lti) (rv_ 4 (.pointer (some ⟨tb, 0 + i * 2 + 1, none⟩)) (fun a ee => execTf1 rfl (ee _)) (rs_ 5 (fun a ee => ?_))))))
        obtain ⟨hc_, hf_⟩ := (FT.at lti).2
        refine stepS rfl rfl (execStFv rfl (ee _) (ee _) hc_ hf_) ⟨_, ⟨_, rfl, rfl⟩, fun X16 hX => ?_⟩
        obtain ⟨BB, FI, FG, FT2⟩ : Below S.heap.size S X16 ∧ (X16.heap[gi]? = some (.cells #[.int .i64 ((i : Nat) : Int)] 3)) ∧ (∀ t, t < i → X16.heap[gt t]? = some (.cells #[.int .i64 ((t : Nat) : Int)] 3) ∧ S.heap.size ≤ gt t) ∧ (TkM X16 tb D.n (tkI (tkR D g8 g3 gt) i) (upf (tkI (tkS D g8 g3 gt) i) i (.func (.func sF) #[] #[.pointer (some ⟨g8, 0, none⟩), .pointer (some ⟨g3, 0, none⟩), .pointer (some ⟨gi, 0, none⟩)]))) := by subst hX; exact ⟨(BB).setCell Ftb _, (FT.other FI), (fun t ht => ⟨FT.other (FG t ht).1, (FG t ht).2⟩), FT.set1⟩
        clear FT hX ee a
        refine rf_ [] (h8_ t1 t2 t3 t7 t8 t9 t10 t11) ?_
        rintro a A - ⟨t1, t2, t3, t7, t8, t9, t10, t11, -⟩
        have FT := FT2
        clear FT2
        refine wp_seq ?_
        refine wp_seq ?_
        refine wi_ A (h8_ t1 t2 t3 t7 t8 t9 t10 t11) (rv_ 0 (.int .i64 ((i : Nat) : Int)) (fun a ee => execLm rfl (Or.inl rfl) (ee _) (one_c FI)) (rf_ [(74, .int .i64 ((i : Nat) : Int))] (h8_ t1 t2 t3 t7 t8 t9 t10 t11) ?_))
        rintro a A ⟨t74, -⟩ ⟨t1, t2, t3, t7, t8, t9, t10, t11, -⟩
        replace FT : TkM X16 tb D.n (tkI (tkR D g8 g3 (upf gt i gi)) (i + 1)) (tkI (tkS D g8 g3 (upf gt i gi)) (i + 1)) := FT.cg (fun t _ => tkR_t hnr t) (fun t _ => tkS_f hla t)
        replace FG : ∀ t, t < i + 1 → X16.heap[upf gt i gi t]? = some (.cells #[.int .i64 ((t : Nat) : Int)] 3) ∧ S.heap.size ≤ upf gt i gi t := fun t ht => by
          by_cases e : t = i
          · rw [e, upf_at]; exact ⟨FI, hgi⟩
          · rw [upf_ne _ _ e]; exact FG t (by omega)
        clear FI
        obtain ⟨gj, eggj⟩ : ∃ z_ : Nat, X16.heap.size = z_ := ⟨_, rfl⟩
        refine wi_ A (h9_ t1 t2 t3 t7 t8 t9 t10 t11 t74) (rs_ 0 (fun a ee => ?_))
        refine stepV rfl rfl (execAlI rfl) ⟨.pointer (some ⟨gj, 0, none⟩), ⟨_, rfl, by subst eggj; rfl⟩, fun X18_1 hX => ?_⟩
        have bQ : Below X16.heap.size X16 X18_1 := by subst hX eggj; exact (belNew X16 _)
        have FJ0 : (X18_1.heap[gj]? = some (.cells #[.int .i64 ((0 : Nat) : Int)] 3)) := by subst hX eggj; exact heapNew X16 _
        have Fge : (S.heap.size ≤ gj) := by subst hX eggj; exact (BB).size
        have FGj : (∀ t, t < i + 1 → upf gt i gi t ≠ gj) := by subst hX eggj; exact fun t ht => Nat.ne_of_lt (Array.getElem?_eq_some_iff.1 (FG t ht).1).1
        replace FT := (FT.on bQ)
        replace FG := (gt_on FG bQ)
        replace BB := BB.trans (bQ.mono BB.size)
        clear bQ hX eggj ee a
        refine rs_ 1 (fun a ee => ?_)
        refine stepS rfl rfl (execStI19 rfl (ee _) (ee _) FJ0) ⟨_, ⟨_, rfl, rfl⟩, fun X18 hX => ?_⟩
        obtain ⟨BB, FT, FG, FJ⟩ : Below S.heap.size S X18 ∧ (TkM X18 tb D.n (tkI (tkR D g8 g3 (upf gt i gi)) (i + 1)) (tkI (tkS D g8 g3 (upf gt i gi)) (i + 1))) ∧ (∀ t, t < (i + 1) → X18.heap[(upf gt i gi) t]? = some (.cells #[.int .i64 ((t : Nat) : Int)] 3) ∧ S.heap.size ≤ (upf gt i gi) t) ∧ (X18.heap[gj]? = some (.cells #[.int .i64 ((i : Nat) : Int)] 3)) := by subst hX; exact ⟨below4 BB Fge _, (FT.row FJ0), (fun t ht => ⟨keepN19 (FG t ht).1 (FGj t ht) (grR19), (FG t ht).2⟩), setRow_heap _ _ _ _ _ _ FJ0⟩
        clear FJ0 hX ee a
        refine rf_ [(11, .pointer (some ⟨gj, 0, none⟩))] (h7_ t1 t2 t3 t7 t8 t9 t10) ?_
        rintro a A ⟨t11, -⟩ ⟨t1, t2, t3, t7, t8, t9, t10, -⟩
        refine wi_ A (h8_ t1 t2 t3 t7 t8 t9 t10 t11) (rv_ 0 (.int .i64 ((i : Nat) : Int)) (fun a ee => execLm rfl (Or.inl rfl) (ee _) (one_c FJ)) (rv_ 1 (.int .i64 ((i + 1 : Nat) : Int)) (fun a ee => execAd8 (p := i) (q := 1) rfl (ee _) rfl (by omega)) (rs_ 2 (fun a ee => ?_))))
        refine stepS rfl rfl (execStI19 rfl (ee _) (ee _) FJ) ⟨_, ⟨_, rfl, rfl⟩, fun X12 hX => ?_⟩
        obtain ⟨BB, FT, FG, FK⟩ : Below S.heap.size S X12 ∧ (TkM X12 tb D.n (tkI (tkR D g8 g3 (upf gt i gi)) (i + 1)) (tkI (tkS D g8 g3 (upf gt i gi)) (i + 1))) ∧ (∀ t, t < (i + 1) → X12.heap[(upf gt i gi) t]? = some (.cells #[.int .i64 ((t : Nat) : Int)] 3) ∧ S.heap.size ≤ (upf gt i gi) t) ∧ (X12.heap[gj]? = some (.cells #[.int .i64 (((i + 1) : Nat) : Int)] 3)) := by subst hX; exact ⟨below4 BB Fge _, (FT.row FJ), (fun t ht => ⟨keepN19 (FG t ht).1 (FGj t ht) (grR19 (g := gj)), (FG t ht).2⟩), setRow_heap _ _ _ _ _ _ FJ⟩
        clear FJ hX ee a
        refine rf_ [] (h8_ t1 t2 t3 t7 t8 t9 t10 t11) ?_
        rintro a A - ⟨t1, t2, t3, t7, t8, t9, t10, t11, -⟩
        exact ⟨⟨i + 1, gj, upf gt i gi, lti, Fge, FGj, A, t1, t2, t3, t7, t8, t9, t10, t11, BB, FT, FK, FG⟩, by show D.n - mI X12 (a.eval (.tmp 11)) < D.n - mI XL (Act.eval _ (.tmp 11)); rw [t11, mI_of FK, esI]; omega⟩
    | false =>
      by_cases hla : D.la i = 0
      · refine wp_seq ?_
        refine wp_seq ?_
        refine wi_ A (h8_ t1 t2 t3 t7 t8 t9 t10 t11) (rv_ 0 (sv) (fun a ee => execLm rfl (Or.inr (Or.inr (Or.inr (Or.inr (Or.inl rfl))))) (ee _) (one_c (hR.on BB).h3)) (rv_ 1 (.int .i64 ((i : Nat) : Int)) (fun a ee => execLm rfl (Or.inl rfl) (ee _) (one_c FI)) (rv_ 2 (.pointer (some ⟨pb, po + i * 4, none⟩)) (fun a ee => execIxM (k := i) rfl ((ee _).trans es) (ee _) lti) (rv_ 3 (.pointer (some ⟨pb, po + i * 4 + 3, none⟩)) (fun a ee => execFm3 rfl (ee _)) (rv_ 4 (.bool false) (fun a ee => execLm rfl (Or.inr (Or.inl rfl)) (ee _) ((cP XL BB).2.2.2.trans (by rw [hnr]))) (rv_ 5 (.bool true) (fun a ee => execNot8 (b := false) rfl (ee _)) (rf_ [(57, .bool true)] (h8_ t1 t2 t3 t7 t8 t9 t10 t11) ?_)))))))
        rintro a A ⟨t57, -⟩ ⟨t1, t2, t3, t7, t8, t9, t10, t11, -⟩
        refine wp_cond_true t57 ?_
        clear t57
        refine wi_ A (h8_ t1 t2 t3 t7 t8 t9 t10 t11) (rv_ 1 (.int .i64 ((i : Nat) : Int)) (fun a ee => execLm rfl (Or.inl rfl) (ee _) (one_c FI)) (rv_ 2 (.func (.func rF) #[] #[.pointer (some ⟨g8, 0, none⟩), .pointer (some ⟨g3, 0, none⟩), .pointer (some ⟨gi, 0, none⟩)]) (fun a ee => execMkF3 rfl (ee _) (ee _) (ee _)) (rv_ 3 (.pointer (some ⟨tb, 0 + i * 2, none⟩)) (fun a ee => execIxQ (k := i) rfl (ee _) (ee _) lti) (rv_ 4 (.pointer (some ⟨tb, 0 + i * 2, none⟩)) (fun a ee => execTf0 rfl (ee _)) (rs_ 5 (fun a ee => ?_))))))
        obtain ⟨hc_, hf_⟩ := (FT.at lti).1
        refine stepS rfl rfl (execStFv rfl (ee _) (ee _) hc_ hf_) ⟨_, ⟨_, rfl, rfl⟩, fun X14 hX => ?_⟩
        obtain ⟨BB, FI, FG, FT2⟩ : Below S.heap.size S X14 ∧ (X14.heap[gi]? = some (.cells #[.int .i64 ((i : Nat) : Int)] 3)) ∧ (∀ t, t < i → X14.heap[gt t]? = some (.cells #[.int .i64 ((t : Nat) : Int)] 3) ∧ S.heap.size ≤ gt t) ∧ (TkM X14 tb D.n (upf (tkI (tkR D g8 g3 gt) i) i (.func (.func rF) #[] #[.pointer (some ⟨g8, 0, none⟩), .pointer (some ⟨g3, 0, none⟩), .pointer (some ⟨gi, 0, none⟩)])) (tkI (tkS D g8 g3 gt) i)) := by subst hX; exact ⟨(BB).setCell Ftb _, (FT.other FI), (fun t ht => ⟨FT.other (FG t ht).1, (FG t ht).2⟩), FT.set0⟩
        clear FT hX ee a
        refine rf_ [] (h8_ t1 t2 t3 t7 t8 t9 t10 t11) ?_
        rintro a A - ⟨t1, t2, t3, t7, t8, t9, t10, t11, -⟩
        have FT := FT2
        clear FT2
        refine wp_seq ?_
        refine wi_ A (h8_ t1 t2 t3 t7 t8 t9 t10 t11) (rv_ 0 (sv) (fun a ee => execLm rfl (Or.inr (Or.inr (Or.inr (Or.inr (Or.inl rfl))))) (ee _) (one_c (hR.on BB).h3)) (rv_ 1 (.int .i64 ((i : Nat) : Int)) (fun a ee => execLm rfl (Or.inl rfl) (ee _) (one_c FI)) (rv_ 2 (.pointer (some ⟨pb, po + i * 4, none⟩)) (fun a ee => execIxM (k := i) rfl ((ee _).trans es) (ee _) lti) (rv_ 3 (.pointer (some ⟨pb, po + i * 4 + 2, none⟩)) (fun a ee => execFm2 rfl (ee _)) (rv_ 4 (.int .i64 (D.la i)) (fun a ee => execLm rfl (Or.inl rfl) (ee _) (cP X14 BB).2.2.1) (rv_ 5 (.bool false) (fun a ee => execDec (exIneq3 (p := (D.la i)) (q := 0) rfl (ee _) rfl) (decide_eq_false (fun h => h hla))) (rf_ [(68, .bool false)] (h8_ t1 t2 t3 t7 t8 t9 t10 t11) ?_)))))))
        rintro a A ⟨t68, -⟩ ⟨t1, t2, t3, t7, t8, t9, t10, t11, -⟩
        refine wp_cond_false t68 ?_
        refine wp_skip ?_
        clear t68
        refine wp_seq ?_
        refine wp_seq ?_
        refine wi_ A (h8_ t1 t2 t3 t7 t8 t9 t10 t11) (rv_ 0 (.int .i64 ((i : Nat) : Int)) (fun a ee => execLm rfl (Or.inl rfl) (ee _) (one_c FI)) (rf_ [(74, .int .i64 ((i : Nat) : Int))] (h8_ t1 t2 t3 t7 t8 t9 t10 t11) ?_))
        rintro a A ⟨t74, -⟩ ⟨t1, t2, t3, t7, t8, t9, t10, t11, -⟩
        replace FT : TkM X14 tb D.n (tkI (tkR D g8 g3 (upf gt i gi)) (i + 1)) (tkI (tkS D g8 g3 (upf gt i gi)) (i + 1)) := FT.cg (fun t _ => tkR_f hnr t) (fun t _ => tkS_t hla t)
        replace FG : ∀ t, t < i + 1 → X14.heap[upf gt i gi t]? = some (.cells #[.int .i64 ((t : Nat) : Int)] 3) ∧ S.heap.size ≤ upf gt i gi t := fun t ht => by
          by_cases e : t = i
          · rw [e, upf_at]; exact ⟨FI, hgi⟩
          · rw [upf_ne _ _ e]; exact FG t (by omega)
        clear FI
        obtain ⟨gj, eggj⟩ : ∃ z_ : Nat, X14.heap.size = z_ := ⟨_, rfl⟩
        refine wi_ A (h9_ t1 t2 t3 t7 t8 t9 t10 t11 t74) (rs_ 0 (fun a ee => ?_))
        refine stepV rfl rfl (execAlI rfl) ⟨.pointer (some ⟨gj, 0, none⟩), ⟨_, rfl, by subst eggj; rfl⟩, fun X18_1 hX => ?_⟩
        have bQ : Below X14.heap.size X14 X18_1 := by subst hX eggj; exact (belNew X14 _)
        have FJ0 : (X18_1.heap[gj]? = some (.cells #[.int .i64 ((0 : Nat) : Int)] 3)) := by subst hX eggj; exact heapNew X14 _
        have Fge : (S.heap.size ≤ gj) := by subst hX eggj; exact (BB).size
        have FGj : (∀ t, t < i + 1 → upf gt i gi t ≠ gj) := by subst hX eggj; exact fun t ht => Nat.ne_of_lt (Array.getElem?_eq_some_iff.1 (FG t ht).1).1
        replace FT := (FT.on bQ)
        replace FG := (gt_on FG bQ)
        replace BB := BB.trans (bQ.mono BB.size)
        clear bQ hX eggj ee a
        refine rs_ 1 (fun a ee => ?_)
        refine stepS rfl rfl (execStI19 rfl (ee _) (ee _) FJ0) ⟨_, ⟨_, rfl, rfl⟩, fun X18 hX => ?_⟩
        obtain ⟨BB, FT, FG, FJ⟩ : Below S.heap.size S X18 ∧ (TkM X18 tb D.n (tkI (tkR D g8 g3 (upf gt i gi)) (i + 1)) (tkI (tkS D g8 g3 (upf gt i gi)) (i + 1))) ∧ (∀ t, t < (i + 1) → X18.heap[(upf gt i gi) t]? = some (.cells #[.int .i64 ((t : Nat) : Int)] 3) ∧ S.heap.size ≤ (upf gt i gi) t) ∧ (X18.heap[gj]? = some (.cells #[.int .i64 ((i : Nat) : Int)] 3)) := by subst hX; exact ⟨below4 BB Fge _, (FT.row FJ0), (fun t ht => ⟨keepN19 (FG t ht).1 (FGj t ht) (grR19), (FG t ht).2⟩), setRow_heap _ _ _ _ _ _ FJ0⟩
        clear FJ0 hX ee a
        refine rf_ [(11, .pointer (some ⟨gj, 0, none⟩))] (h7_ t1 t2 t3 t7 t8 t9 t10) ?_
        rintro a A ⟨t11, -⟩ ⟨t1, t2, t3, t7, t8, t9, t10, -⟩
        refine wi_ A (h8_ t1 t2 t3 t7 t8 t9 t10 t11) (rv_ 0 (.int .i64 ((i : Nat) : Int)) (fun a ee => execLm rfl (Or.inl rfl) (ee _) (one_c FJ)) (rv_ 1 (.int .i64 ((i + 1 : Nat) : Int)) (fun a ee => execAd8 (p := i) (q := 1) rfl (ee _) rfl (by omega)) (rs_ 2 (fun a ee => ?_))))
        refine stepS rfl rfl (execStI19 rfl (ee _) (ee _) FJ) ⟨_, ⟨_, rfl, rfl⟩, fun X12 hX => ?_⟩
        obtain ⟨BB, FT, FG, FK⟩ : Below S.heap.size S X12 ∧ (TkM X12 tb D.n (tkI (tkR D g8 g3 (upf gt i gi)) (i + 1)) (tkI (tkS D g8 g3 (upf gt i gi)) (i + 1))) ∧ (∀ t, t < (i + 1) → X12.heap[(upf gt i gi) t]? = some (.cells #[.int .i64 ((t : Nat) : Int)] 3) ∧ S.heap.size ≤ (upf gt i gi) t) ∧ (X12.heap[gj]? = some (.cells #[.int .i64 (((i + 1) : Nat) : Int)] 3)) := by subst hX; exact ⟨below4 BB Fge _, (FT.row FJ), (fun t ht => ⟨keepN19 (FG t ht).1 (FGj t ht) (grR19 (g := gj)), (FG t ht).2⟩), setRow_heap _ _ _ _ _ _ FJ⟩
        clear FJ hX ee a
        refine rf_ [] (h8_ t1 t2 t3 t7 t8 t9 t10 t11) ?_
        rintro a A - ⟨t1, t2, t3, t7, t8, t9, t10, t11, -⟩
        exact ⟨⟨i + 1, gj, upf gt i gi, lti, Fge, FGj, A, t1, t2, t3, t7, t8, t9, t10, t11, BB, FT, FK, FG⟩, by show D.n - mI X12 (a.eval (.tmp 11)) < D.n - mI XL (Act.eval _ (.tmp 11)); rw [t11, mI_of FK, esI]; omega⟩
      · refine wp_seq ?_
        refine wp_seq ?_
        refine wi_ A (h8_ t1 t2 t3 t7 t8 t9 t10 t11) (rv_ 0 (sv) (fun a ee => execLm rfl (Or.inr (Or.inr (Or.inr (Or.inr (Or.inl rfl))))) (ee _) (one_c (hR.on BB).h3)) (rv_ 1 (.int .i64 ((i : Nat) : Int)) (fun a ee => execLm rfl (Or.inl rfl) (ee _) (one_c FI)) (rv_ 2 (.pointer (some ⟨pb, po + i * 4, none⟩)) (fun a ee => execIxM (k := i) rfl ((ee _).trans es) (ee _) lti) (rv_ 3 (.pointer (some ⟨pb, po + i * 4 + 3, none⟩)) (fun a ee => execFm3 rfl (ee _)) (rv_ 4 (.bool false) (fun a ee => execLm rfl (Or.inr (Or.inl rfl)) (ee _) ((cP XL BB).2.2.2.trans (by rw [hnr]))) (rv_ 5 (.bool true) (fun a ee => execNot8 (b := false) rfl (ee _)) (rf_ [(57, .bool true)] (h8_ t1 t2 t3 t7 t8 t9 t10 t11) ?_)))))))
        rintro a A ⟨t57, -⟩ ⟨t1, t2, t3, t7, t8, t9, t10, t11, -⟩
        refine wp_cond_true t57 ?_
        clear t57
        refine wi_ A (h8_ t1 t2 t3 t7 t8 t9 t10 t11) (rv_ 1 (.int .i64 ((i : Nat) : Int)) (fun a ee => execLm rfl (Or.inl rfl) (ee _) (one_c FI)) (rv_ 2 (.func (.func rF) #[] #[.pointer (some ⟨g8, 0, none⟩), .pointer (some ⟨g3, 0, none⟩), .pointer (some ⟨gi, 0, none⟩)]) (fun a ee => execMkF3 rfl (ee _) (ee _) (ee _)) (rv_ 3 (.pointer (some ⟨tb, 0 + i * 2, none⟩)) (fun a ee => execIxQ (k := i) rfl (ee _) (ee _) lti) (rv_ 4 (.pointer (some ⟨tb, 0 + i * 2, none⟩)) (fun a ee => execTf0 rfl (ee _)) (rs_ 5 (fun a ee => ?_))))))
        obtain ⟨hc_, hf_⟩ := (FT.at lti).1
        refine stepS rfl rfl (execStFv rfl (ee _) (ee _) hc_ hf_) ⟨_, ⟨_, rfl, rfl⟩, fun X14 hX => ?_⟩
        obtain ⟨BB, FI, FG, FT2⟩ : Below S.heap.size S X14 ∧ (X14.heap[gi]? = some (.cells #[.int .i64 ((i : Nat) : Int)] 3)) ∧ (∀ t, t < i → X14.heap[gt t]? = some (.cells #[.int .i64 ((t : Nat) : Int)] 3) ∧ S.heap.size ≤ gt t) ∧ (TkM X14 tb D.n (upf (tkI (tkR D g8 g3 gt) i) i (.func (.func rF) #[] #[.pointer (some ⟨g8, 0, none⟩), .pointer (some ⟨g3, 0, none⟩), .pointer (some ⟨gi, 0, none⟩)])) (tkI (tkS D g8 g3 gt) i)) := by subst hX; exact ⟨(BB).setCell Ftb _, (FT.other FI), (fun t ht => ⟨FT.other (FG t ht).1, (FG t ht).2⟩), FT.set0⟩
        clear FT hX ee a
        refine rf_ [] (h8_ t1 t2 t3 t7 t8 t9 t10 t11) ?_
        rintro a A - ⟨t1, t2, t3, t7, t8, t9, t10, t11, -⟩
        have FT := FT2
        clear FT2
        refine wp_seq ?_
        refine wi_ A (h8_ t1 t2 t3 t7 t8 t9 t10 t11) (rv_ 0 (sv) (fun a ee => execLm rfl (Or.inr (Or.inr (Or.inr (Or.inr (Or.inl rfl))))) (ee _) (one_c (hR.on BB).h3)) (rv_ 1 (.int .i64 ((i : Nat) : Int)) (fun a ee => execLm rfl (Or.inl rfl) (ee _) (one_c FI)) (rv_ 2 (.pointer (some ⟨pb, po + i * 4, none⟩)) (fun a ee => execIxM (k := i) rfl ((ee _).trans es) (ee _) lti) (rv_ 3 (.pointer (some ⟨pb, po + i * 4 + 2, none⟩)) (fun a ee => execFm2 rfl (ee _)) (rv_ 4 (.int .i64 (D.la i)) (fun a ee => execLm rfl (Or.inl rfl) (ee _) (cP X14 BB).2.2.1) (rv_ 5 (.bool true) (fun a ee => execDec (exIneq3 (p := (D.la i)) (q := 0) rfl (ee _) rfl) (decide_eq_true hla)) (rf_ [(68, .bool true)] (h8_ t1 t2 t3 t7 t8 t9 t10 t11) ?_)))))))
        rintro a A ⟨t68, -⟩ ⟨t1, t2, t3, t7, t8, t9, t10, t11, -⟩
        refine wp_cond_true t68 ?_
        clear t68
        refine wi_ A (h8_ t1 t2 t3 t7 t8 t9 t10 t11) (rv_ 1 (.int .i64 ((i : Nat) : Int)) (fun a ee => execLm rfl (Or.inl rfl) (ee _) (one_c FI)) (rv_ 2 (.func (.func sF) #[] #[.pointer (some ⟨g8, 0, none⟩), .pointer (some ⟨g3, 0, none⟩), .pointer (some ⟨gi, 0, none⟩)]) (fun a ee => execMkF3 rfl (ee _) (ee _) (ee _)) (rv_ 3 (.pointer (some ⟨tb, 0 + i * 2, none⟩)) (fun a ee => execIxQ (k := i) rfl (ee _) (ee _) lti) (rv_ 4 (.pointer (some ⟨tb, 0 + i * 2 + 1, none⟩)) (fun a ee => execTf1 rfl (ee _)) (rs_ 5 (fun a ee => ?_))))))
        obtain ⟨hc_, hf_⟩ := (FT.at lti).2
        refine stepS rfl rfl (execStFv rfl (ee _) (ee _) hc_ hf_) ⟨_, ⟨_, rfl, rfl⟩, fun X16 hX => ?_⟩
        obtain ⟨BB, FI, FG, FT2⟩ : Below S.heap.size S X16 ∧ (X16.heap[gi]? = some (.cells #[.int .i64 ((i : Nat) : Int)] 3)) ∧ (∀ t, t < i → X16.heap[gt t]? = some (.cells #[.int .i64 ((t : Nat) : Int)] 3) ∧ S.heap.size ≤ gt t) ∧ (TkM X16 tb D.n (upf (tkI (tkR D g8 g3 gt) i) i (.func (.func rF) #[] #[.pointer (some ⟨g8, 0, none⟩), .pointer (some ⟨g3, 0, none⟩), .pointer (some ⟨gi, 0, none⟩)])) (upf (tkI (tkS D g8 g3 gt) i) i (.func (.func sF) #[] #[.pointer (some ⟨g8, 0, none⟩), .pointer (some ⟨g3, 0, none⟩), .pointer (some ⟨gi, 0, none⟩)]))) := by subst hX; exact ⟨(BB).setCell Ftb _, (FT.other FI), (fun t ht => ⟨FT.other (FG t ht).1, (FG t ht).2⟩), FT.set1⟩
        clear FT hX ee a
        refine rf_ [] (h8_ t1 t2 t3 t7 t8 t9 t10 t11) ?_
        rintro a A - ⟨t1, t2, t3, t7, t8, t9, t10, t11, -⟩
        have FT := FT2
        clear FT2
        refine wp_seq ?_
        refine wp_seq ?_
        refine wi_ A (h8_ t1 t2 t3 t7 t8 t9 t10 t11) (rv_ 0 (.int .i64 ((i : Nat) : Int)) (fun a ee => execLm rfl (Or.inl rfl) (ee _) (one_c FI)) (rf_ [(74, .int .i64 ((i : Nat) : Int))] (h8_ t1 t2 t3 t7 t8 t9 t10 t11) ?_))
        rintro a A ⟨t74, -⟩ ⟨t1, t2, t3, t7, t8, t9, t10, t11, -⟩
        replace FT : TkM X16 tb D.n (tkI (tkR D g8 g3 (upf gt i gi)) (i + 1)) (tkI (tkS D g8 g3 (upf gt i gi)) (i + 1)) := FT.cg (fun t _ => tkR_f hnr t) (fun t _ => tkS_f hla t)
        replace FG : ∀ t, t < i + 1 → X16.heap[upf gt i gi t]? = some (.cells #[.int .i64 ((t : Nat) : Int)] 3) ∧ S.heap.size ≤ upf gt i gi t := fun t ht => by
          by_cases e : t = i
          · rw [e, upf_at]; exact ⟨FI, hgi⟩
          · rw [upf_ne _ _ e]; exact FG t (by omega)
        clear FI
        obtain ⟨gj, eggj⟩ : ∃ z_ : Nat, X16.heap.size = z_ := ⟨_, rfl⟩
        refine wi_ A (h9_ t1 t2 t3 t7 t8 t9 t10 t11 t74) (rs_ 0 (fun a ee => ?_))
        refine stepV rfl rfl (execAlI rfl) ⟨.pointer (some ⟨gj, 0, none⟩), ⟨_, rfl, by subst eggj; rfl⟩, fun X18_1 hX => ?_⟩
        have bQ : Below X16.heap.size X16 X18_1 := by subst hX eggj; exact (belNew X16 _)
        have FJ0 : (X18_1.heap[gj]? = some (.cells #[.int .i64 ((0 : Nat) : Int)] 3)) := by subst hX eggj; exact heapNew X16 _
        have Fge : (S.heap.size ≤ gj) := by subst hX eggj; exact (BB).size
        have FGj : (∀ t, t < i + 1 → upf gt i gi t ≠ gj) := by subst hX eggj; exact fun t ht => Nat.ne_of_lt (Array.getElem?_eq_some_iff.1 (FG t ht).1).1
        replace FT := (FT.on bQ)
        replace FG := (gt_on FG bQ)
        replace BB := BB.trans (bQ.mono BB.size)
        clear bQ hX eggj ee a
        refine rs_ 1 (fun a ee => ?_)
        refine stepS rfl rfl (execStI19 rfl (ee _) (ee _) FJ0) ⟨_, ⟨_, rfl, rfl⟩, fun X18 hX => ?_⟩
        obtain ⟨BB, FT, FG, FJ⟩ : Below S.heap.size S X18 ∧ (TkM X18 tb D.n (tkI (tkR D g8 g3 (upf gt i gi)) (i + 1)) (tkI (tkS D g8 g3 (upf gt i gi)) (i + 1))) ∧ (∀ t, t < (i + 1) → X18.heap[(upf gt i gi) t]? = some (.cells #[.int .i64 ((t : Nat) : Int)] 3) ∧ S.heap.size ≤ (upf gt i gi) t) ∧ (X18.heap[gj]? = some (.cells #[.int .i64 ((i : Nat) : Int)] 3)) := by subst hX; exact ⟨below4 BB Fge _, (FT.row FJ0), (fun t ht => ⟨keepN19 (FG t ht).1 (FGj t ht) (grR19), (FG t ht).2⟩), setRow_heap _ _ _ _ _ _ FJ0⟩
        clear FJ0 hX ee a
        refine rf_ [(11, .pointer (some ⟨gj, 0, none⟩))] (h7_ t1 t2 t3 t7 t8 t9 t10) ?_
        rintro a A ⟨t11, -⟩ ⟨t1, t2, t3, t7, t8, t9, t10, -⟩
        refine wi_ A (h8_ t1 t2 t3 t7 t8 t9 t10 t11) (rv_ 0 (.int .i64 ((i : Nat) : Int)) (fun a ee => execLm rfl (Or.inl rfl) (ee _) (one_c FJ)) (rv_ 1 (.int .i64 ((i + 1 : Nat) : Int)) (fun a ee => execAd8 (p := i) (q := 1) rfl (ee _) rfl (by omega)) (rs_ 2 (fun a ee => ?_))))
        refine stepS rfl rfl (execStI19 rfl (ee _) (ee _) FJ) ⟨_, ⟨_, rfl, rfl⟩, fun X12 hX => ?_⟩
        obtain ⟨BB, FT, FG, FK⟩ : Below S.heap.size S X12 ∧ (TkM X12 tb D.n (tkI (tkR D g8 g3 (upf gt i gi)) (i + 1)) (tkI (tkS D g8 g3 (upf gt i gi)) (i + 1))) ∧ (∀ t, t < (i + 1) → X12.heap[(upf gt i gi) t]? = some (.cells #[.int .i64 ((t : Nat) : Int)] 3) ∧ S.heap.size ≤ (upf gt i gi) t) ∧ (X12.heap[gj]? = some (.cells #[.int .i64 (((i + 1) : Nat) : Int)] 3)) := by subst hX; exact ⟨below4 BB Fge _, (FT.row FJ), (fun t ht => ⟨keepN19 (FG t ht).1 (FGj t ht) (grR19 (g := gj)), (FG t ht).2⟩), setRow_heap _ _ _ _ _ _ FJ⟩
        clear FJ hX ee a
        refine rf_ [] (h8_ t1 t2 t3 t7 t8 t9 t10 t11) ?_
        rintro a A - ⟨t1, t2, t3, t7, t8, t9, t10, t11, -⟩
        exact ⟨⟨i + 1, gj, upf gt i gi, lti, Fge, FGj, A, t1, t2, t3, t7, t8, t9, t10, t11, BB, FT, FK, FG⟩, by show D.n - mI X12 (a.eval (.tmp 11)) < D.n - mI XL (Act.eval _ (.tmp 11)); rw [t11, mI_of FK, esI]; omega⟩
  · rw [decide_eq_false lti] at t49
    refine wp_cond_false t49 ?_
    refine wp_exit ?_
    first | with_reducible refine exit_in ?_ | with_reducible refine exit_then (exit_in ?_) | with_reducible refine exit_then (exit_then (exit_in ?_)) | refine exit_in ?_ | refine exit_then (exit_in ?_) | refine exit_then (exit_then (exit_in ?_))
    clear t49
    obtain rfl : D.n = i := by omega
    replace FT : TkM XL tb D.n (tkR D g8 g3 gt) (tkS D g8 g3 gt) := FT.cg (fun t ht => if_pos ht) (fun t ht => if_pos ht)
    have FB := BB
    clear BB
    have BB := (hR.on FB).bel
    clear t11 FI esI
    refine wp_seq ?_
    refine wi_ A (h7_ t1 t2 t3 t7 t8 t9 t10) (rc_ 3 (runs_run hR hP hn FB FT FG hS hmo) fun e X19_1 hh => ?_)
    obtain ⟨pk2, he, hA⟩ := hh
    refine ⟨_, he, ?_⟩
    obtain ⟨BB, FD, FA⟩ : Below V.heap.size V X19_1 ∧ (Below X19_1.heap.size X19_1 X19_1) ∧ (Af V X19_1 g8 g9 ga gb pk pk2 D.n (gO V gb g8 g3 sv D hP hn m sc most).2.2.1 (gO V gb g8 g3 sv D hP hn m sc most).2.2.1 (gO V gb g8 g3 sv D hP hn m sc most).1 (gO V gb g8 g3 sv D hP hn m sc most).1 (gE D (gO V gb g8 g3 sv D hP hn m sc most)) (gS D (gO V gb g8 g3 sv D hP hn m sc most))) := ⟨hA.bel, Below.refl _ _, hA⟩
    clear FT FG FB
    obtain ⟨g12, egg12⟩ : ∃ z_ : Nat, X19_1.heap.size = z_ := ⟨_, rfl⟩
    refine rs_ 4 (fun a ee => ?_)
    refine stepV rfl rfl (execAlH rfl) ⟨.pointer (some ⟨g12, 0, none⟩), ⟨_, rfl, by subst egg12; rfl⟩, fun X19_2 hX => ?_⟩
    have bQ : Below X19_1.heap.size X19_1 X19_2 := by subst hX egg12; exact (belNew X19_1 _)
    have F12 : (X19_2.heap[g12]? = some (.cells (hC (.slice none 0 0) 0 false false 0 (.slice none 0 0)) 29)) := by subst hX egg12; exact heapNew X19_1 _
    have Fz : (X19_1.heap.size ≤ g12) := by subst hX egg12; exact FD.size
    replace FD := (FD.trans (bQ.mono FD.size))
    replace BB := BB.trans (bQ.mono BB.size)
    clear bQ hX egg12 ee a
    refine rs_ 5 (fun a ee => ?_)
    refine stepS rfl rfl (execStH rfl (ee _) (ee _) F12 (sl3 (own_shpZ FA.p2)) ⟨_, _, _, rfl⟩) ⟨_, ⟨_, rfl, rfl⟩, fun X19 hX => ?_⟩
    obtain ⟨BB, FD, FH⟩ : Below V.heap.size V X19 ∧ (Below X19_1.heap.size X19_1 X19) ∧ (X19.heap[g12]? = some (.cells (hC pk2 0 (gE D (gO V gb g8 g3 sv D hP hn m sc most)) (gS D (gO V gb g8 g3 sv D hP hn m sc most)) 0 (.slice none 0 0)) 29)) := by subst hX; exact ⟨below4 BB (Nat.le_trans FA.bel.size Fz) _, (below4 FD Fz _), setRow_heap _ _ _ _ _ _ F12⟩
    clear F12 hX ee a
    refine rf_ [(12, .pointer (some ⟨g12, 0, none⟩))] (h3_ t7 t8 t9) ?_
    rintro a A ⟨t12, -⟩ ⟨t7, t8, t9, -⟩
    replace FA := FA.on FD
    clear FD
    obtain ⟨F1_, ca1, av1, dv1, la1, -⟩ := FA.la
    obtain ⟨F2_, ca2, av2, dv2, la2, -⟩ := FA.lb
    have hf := go_fit (sc := scr m sc) (shS_is (U0 := V) (gl := gb) (gb := g8) (gs := g3) (gt := fun _ => 0) (sv := sv) (D := D) (hP := hP) (hn := hn)) most.toNat 0 (shS V gb g8 g3 (fun _ => 0) sv D hP hn).en0 lg0 [] (fun z hz => absurd hz (List.not_mem_nil)) (fun z hz => absurd hz (List.not_mem_nil))
    replace hf : (∀ z ∈ (gO V gb g8 g3 sv D hP hn m sc most).2.2.1.ca, z < 2 * D.n + 2) ∧ (∀ z ∈ (gO V gb g8 g3 sv D hP hn m sc most).1, z < D.n) ∧ (gO V gb g8 g3 sv D hP hn m sc most).1.length ≤ 0 + most.toNat ∧ (gO V gb g8 g3 sv D hP hn m sc most).2.2.1.ca.length ≤ 0 + (most.toNat + 1) * (D.n + 1) := hf
    have hmul : (most.toNat + 1) * (D.n + 1) ≤ 1001 * 1001 := Nat.mul_le_mul (by omega) (by omega)
    obtain ⟨hf1, hf2, hf3, hf4⟩ := hf
    clear BB
    have BB : Below X19.heap.size X19 X19 := Below.refl _ _
    refine wp_seq ?_
    refine wj_ [0, 1, 2, 3, 4, 5, 6, 7, 8, 9, 10, 11, 12, 13, 14] [2, 12] [0, 1, 7, 8, 11] [] A (h4_ t7 t8 t9 t12) (fun X20_0 bD => ?_)
    refine dv_ 0 (.agg (hC pk2 0 (gE D (gO V gb g8 g3 sv D hP hn m sc most)) (gS D (gO V gb g8 g3 sv D hP hn m sc most)) 0 (.slice none 0 0))) (fun a X ee hb => execLdHw rfl (ee _) (on9 FH (BB.trans (hb.mono BB.size)))) (dv_ 1 (.agg (hC pk 0 (gE D (gO V gb g8 g3 sv D hP hn m sc most)) (gS D (gO V gb g8 g3 sv D hP hn m sc most)) 0 (.slice none 0 0))) (fun a X ee hb => execLdHw rfl (ee _) (FA.on (BB.trans (hb.mono BB.size))).h9) (dc_ 2 (sameHistory19 _ _ _ _ 0 0 (gO V gb g8 g3 sv D hP hn m sc most).1.length 0 _ _ _ _ (fun _ => undef) (fun _ => undef) (fun _ => 0) (fun _ _ => 0) (fun _ _ => 0) X20_0 (own_ints (FA.on (BB.trans (bD.mono BB.size))).p2 (caF_fit hf2 (by omega))) (own_ints (FA.on (BB.trans (bD.mono BB.size))).p1 (caF_fit hf2 (by omega))) (fun _ _ => rfl) (by omega) nil_V nil_V (fun t ht => absurd ht (Nat.not_lt_zero t)) (fun t ht => absurd ht (Nat.not_lt_zero t)) (fun t ht => absurd ht (Nat.not_lt_zero t)) (fun t ht => absurd ht (Nat.not_lt_zero t)) (Nat.zero_le _)) (cb_ fun X20_1 bQ => ?_)))
    replace bD := bD.trans (bQ.mono bD.size)
    clear bQ
    refine ⟨Or.inr bD, ?_⟩
    refine dw_ 5 (.pointer (some ⟨ga, 0, none⟩)) (fun a X ee => execNlm rfl (ee _)) (dw_ 6 (.pointer (some ⟨ga, 0, none⟩)) (fun a X ee => execFg0 rfl (ee _)) (dv_ 7 (ca1) (fun a X ee hb => execLm rfl (Or.inr (Or.inr (Or.inl rfl))) (ee _) (gC_at (la1.on (BB.trans (hb.mono BB.size))).hg).1) (dv_ 8 (.pointer (some ⟨gb, 0, none⟩)) (fun a X ee hb => execLm rfl (Or.inr (Or.inr (Or.inr (Or.inr (Or.inr (rfl)))))) (ee _) (one_c (FA.on (BB.trans (hb.mono BB.size))).h8)) (dw_ 9 (.pointer (some ⟨gb, 0, none⟩)) (fun a X ee => execNlm rfl (ee _)) (dw_ 10 (.pointer (some ⟨gb, 0, none⟩)) (fun a X ee => execFg0 rfl (ee _)) (dv_ 11 (ca2) (fun a X ee hb => execLm rfl (Or.inr (Or.inr (Or.inl rfl))) (ee _) (gC_at (la2.on (BB.trans (hb.mono BB.size))).hg).1) (dc_ 12 (same19 _ _ (gO V gb g8 g3 sv D hP hn m sc most).2.2.1.ca.length _ _ X20_1 (own_ints (la1.on (BB.trans (bD.mono BB.size))).oc (caF_fit hf1 (by omega))) (own_ints (la2.on (BB.trans (bD.mono BB.size))).oc (caF_fit hf1 (by omega))) (fun _ _ => rfl) (by omega)) (cb_ fun X20 bQ => ?_))))))))
    replace bD := bD.trans (bQ.mono bD.size)
    clear bQ
    refine ⟨Or.inr bD, ?_⟩
    refine dy_ [(6, .bool true)] ?_
    rintro a A ⟨t6, -⟩
    replace BB := BB.trans (bD.mono BB.size)
    clear bD
    refine wp_ret ?_
    repeat (first | with_reducible refine ret_in ?_ | with_reducible refine ret_then ?_)
    refine bodyPost_ret (results_tmp rfl _ _ _) A.2 ⟨?_, FA.bel.trans (BB.mono FA.bel.size)⟩
    show Ending.returned (a.eval (.tmp 6)) = _
    rw [t6]
end Go.Proofs.Ytmllfmnpcidkbaa.Loo
