import Derived.Test.YtcibogmghagpoaaV8d
namespace Go.Proofs.Ytcibogmghagpoaa.Dro
open Go.RowKit Gf8 Aes By8 Cel Cf Tap Drw
/- Stage 28: the reference's Exchange. Written by tools/mkV8e.py. -/

/-- n new rows in a new list. -/
structure An (B : Nat) (W : World) (v : Value) (n : Nat) (y : Nat → Value) (ln : Nat → Nat) (f : Nat → Nat → Nat) : Prop where
  own : W.ownsRow B 23 1 v n (lL y n)
  fam : Fam B n y ln f W
  byt : ∀ t, t < n → ∀ j, j < ln t → f t j < 256
section
variable {W : World} {v : Value} {n k : Nat} {f : Nat → Int} {o : Oper} {a : Act} {x y : Operand}
theorem execIdxIb (h : SliceI W v n f) (ho : o.op = .indexAddr 43 x y) (hx : a.eval x = v) (hy : a.eval y = .int .i64 (k : Int)) (hk : k < n) : (execOp a.eval o).run Try.prog W = .ok (.value (.pointer (some ⟨adB v, adO v + k, none⟩))) W := by
  obtain ⟨ad, cap, rfl, _, _, q⟩ := h.shape
  obtain ⟨b, off, rfl, _⟩ := q (by omega)
  exact execIdxN ho hx hy hk
theorem execLdIb (h : SliceI W v n f) (ho : o.op = .load 3 x) (hx : a.eval x = .pointer (some ⟨adB v, adO v + k, none⟩)) (hk : k < n) : (execOp a.eval o).run Try.prog W = .ok (.value (.int .i64 (f k))) W := by
  obtain ⟨ad, cap, rfl, _, _, q⟩ := h.shape
  obtain ⟨b, off, rfl, _, hc⟩ := q (by omega)
  exact execLd3 ho hx (hc k hk)
end
theorem x_one {n : Nat} {ln : Nat → Nat} {c : Nat → Nat → Nat} {i k : Nat} (h : kdF n ln c i = k) (hk : k ≠ 1) : xL n ln c i = 1 ∧ ∀ j, j < 1 → xF n ln c i j = k := ⟨if_neg (fun e => hk (h.symm.trans e)), fun j hj => by obtain rfl : j = 0 := (by omega); exact (if_pos rfl).trans h⟩
theorem x_met {n : Nat} {ln : Nat → Nat} {c : Nat → Nat → Nat} {i : Nat} (j : Nat) : c (paF n ln c i) (8 + j) = xF n ln c i (1 + j) := by
  unfold xF
  rw [if_neg (by omega), Nat.add_sub_cancel_left]
theorem own_lit {W : World} {B g k l : Nat} {f : Nat → Nat} (h : W.heap[g]? = some (.cells #[.int .u8 ((k : Nat) : Int)] 5)) (hg : B ≤ g) (hl : l = 1) (hf : ∀ j, j < 1 → f j = k) : W.ownsRow B 5 1 (.slice (some ⟨g, 0, none⟩) 1 1) l (bytesL l f) := by
  subst hl
  have e : bA 1 f = #[.int .u8 ((k : Nat) : Int)] := by rw [bA_congr (g := fun _ => k) hf]; rfl
  exact own_full (by rw [e]; exact h) hg (by omega)
theorem one_of {v : Value} {n : Nat} (h : ∃ a c, v = .slice a n c) : ∀ u ∈ (#[v] : Array Value).toList, u.oneCell' = true := by
  obtain ⟨a, c, rfl⟩ := h
  intro u hu
  simp at hu
  subst hu
  rfl
set_option maxRecDepth 100000 in
set_option maxHeartbeats 4000000 in
/-- The reference's Exchange. -/
theorem rexchange (n : Nat) (cv : Value) (xv : Nat → Value) (ln : Nat → Nat) (c : Nat → Nat → Nat) (V : World) (hL : Ls V cv n xv ln c) (hn : n ≤ 999999) :
    Calls Try.prog 19 #[cv] V fun e w' => (∃ r y, e = .returned r ∧ An V.heap.size w' r n y (xL n ln c) (xF n ln c)) ∧ Below V.heap.size V w' := by
  go_enter Try.func19, Try.ntmps19
  refine wo_ 45 [(0, cv)] ?_
  rintro a A ⟨t0, -⟩
  have BW : Below V.heap.size V V := Below.refl _ _
  have BB := BW
  refine wp_seq ?_
  refine wi_ A (h1_ t0) (rf_ [] (h1_ t0) ?_)
  rintro a A - ⟨t0, -⟩
  refine wp_seq ?_
  refine wi_ A (h1_ t0) (rf_ [(3, .slice none 0 0)] (h1_ t0) ?_)
  rintro a A ⟨t3, -⟩ ⟨t0, -⟩
  refine wp_seq ?_
  refine wp_seq ?_
  refine wi_ A (h2_ t0 t3) (rf_ [(4, .int .i64 ((0 : Nat) : Int))] (h2_ t0 t3) ?_)
  rintro a A ⟨t4, -⟩ ⟨t0, t3, -⟩
  have FU : (V.ownsRow V.heap.size 23 1 (.slice none 0 0) (0) (lL (fun _ => undef) (0))) := World.ownsRow_nil _ _ _ _
  have FF : (Fam V.heap.size (0) (fun _ => undef) (xL n ln c) (xF n ln c) V) := Fam.none _ _ _ _ _
  refine wp_block ?_
  refine wp_loop (fun a W => ∃ (i : Nat) (u : Value) (y : Nat → Value), i ≤ n ∧ (a.tmps.size = 45 ∧ a.defers = []) ∧ a.eval (.tmp 0) = cv ∧ a.eval (.tmp 3) = u ∧ a.eval (.tmp 4) = .int .i64 ((i : Nat) : Int) ∧ Below V.heap.size V W ∧ (W.ownsRow V.heap.size 23 1 u (i) (lL y (i))) ∧ (Fam V.heap.size (i) y (xL n ln c) (xF n ln c) W)) (fun a _ => n - (intOf (a.eval (.tmp 4))).toNat) ⟨0, .slice none 0 0, fun _ => undef, Nat.zero_le _, A, t0, t3, t4, BB, FU, FF⟩ ?_
  clear A t0 t3 t4 BB FU FF a
  rintro a XL3 ⟨i, u, y, hi, A, t0, t3, t4, BB, FU, FF⟩
  have esi := t4
  refine wp_seq ?_
  refine wp_seq ?_
  refine wi_ A (h3_ t0 t3 t4) (rv_ 2 (.int .i64 ((n : Nat) : Int)) (fun a ee => execLenLL rfl (ee _) (hL.on BB).shp) (rv_ 3 (.bool (decide (i < n))) (fun a ee => execLtW (p := i) (q := n) rfl (ee _) (ee _)) (rf_ [(10, .bool (decide (i < n)))] (h3_ t0 t3 t4) ?_)))
  rintro a A ⟨t10, -⟩ ⟨t0, t3, t4, -⟩
  by_cases lti : i < n
  · rw [decide_eq_true lti] at t10
    refine wp_cond_true t10 ?_
    refine wp_skip ?_
    clear t10
    refine wp_seq ?_
    refine wp_block ?_
    have hVs := BB.size
    have FB : Below XL3.heap.size XL3 XL3 := Below.refl _ _
    have FF0 := FF
    clear FF
    refine wp_seq ?_
    obtain ⟨g13, egg13⟩ : ∃ z_ : Nat, XL3.heap.size = z_ := ⟨_, rfl⟩
    refine wi_ A (h3_ t0 t3 t4) (rs_ 0 (fun a ee => ?_))
    refine stepV rfl rfl (execBsU rfl) ⟨.slice (some ⟨g13, 0, none⟩) 1 1, ⟨_, rfl, by subst egg13; rfl⟩, fun X5 hX => ?_⟩
    have bQ : Below XL3.heap.size XL3 X5 := by subst hX egg13; exact (belNew XL3 _)
    have Fg13 : (X5.heap[g13]? = some (.cells #[.int .u8 ((3 : Nat) : Int)] 5)) := by subst hX egg13; exact heapNew XL3 _
    have FGg13 : (XL3.heap.size ≤ g13) := by subst hX egg13; exact (FB).size
    replace FU := (ownD_below FU bQ)
    replace FB := (FB.trans (bQ.mono FB.size))
    replace BB := BB.trans (bQ.mono BB.size)
    clear bQ hX egg13 ee a
    refine rf_ [(5, .slice (some ⟨g13, 0, none⟩) 1 1)] (h3_ t0 t3 t4) ?_
    rintro a A ⟨t5, -⟩ ⟨t0, t3, t4, -⟩
    refine wp_seq ?_
    refine wp_seq ?_
    cases hr : rgt (ln i)
    · refine wi_ A (h4_ t0 t3 t4 t5) (rv_ 2 (.pointer (some ⟨adB cv, adO cv + i, none⟩)) (fun a ee => execIdxLs (k := i) (hL.on BB) rfl (ee _) (ee _) lti) (rv_ 3 (xv i) (fun a ee => execLdLs (k := i) (hL.on BB) rfl (ee _) lti) (rc_ 4 ((hr ▸ rright28 (c i) (ln i) (xv i) X5 ((hL.on BB).cell i lti))) (cb_ fun X6 bQ => ?_))))
      replace FU := (ownD_below FU bQ)
      replace FB := (FB.trans (bQ.mono FB.size))
      replace Fg13 := (on9 Fg13 bQ)
      replace BB := BB.trans (bQ.mono BB.size)
      clear bQ
      refine rf_ [(18, .bool false)] (h4_ t0 t3 t4 t5) ?_
      rintro a A ⟨t18, -⟩ ⟨t0, t3, t4, t5, -⟩
      refine wp_cond_false t18 ?_
      refine wp_skip ?_
      clear t18
      obtain ⟨eL, eF⟩ := x_one (show kdF n ln c i = 3 by unfold kdF; rw [hr]; rfl) (by decide)
      have FA : (X6.ownsRow XL3.heap.size 5 1 (.slice (some ⟨g13, 0, none⟩) 1 1) (xL n ln c i) (bytesL (xL n ln c i) (xF n ln c i))) := own_lit Fg13 FGg13 eL eF
      clear Fg13
      have FF1 : (Fam V.heap.size (i + 1) (updX y i (.slice (some ⟨g13, 0, none⟩) 1 1)) (xL n ln c) (xF n ln c) X6) := FF0.add FB hVs FA
      have hsl := ownQ_shape FA
      clear FA FB
      obtain ⟨g42, egg42⟩ : ∃ z_ : Nat, X6.heap.size = z_ := ⟨_, rfl⟩
      refine wi_ A (h4_ t0 t3 t4 t5) (rs_ 2 (fun a ee => ?_))
      refine stepV rfl rfl (execBsL rfl (ee _) (by obtain ⟨q1, q2, q3⟩ := hsl; exact ⟨q1, _, q2, q3⟩)) ⟨.slice (some ⟨g42, 0, none⟩) 1 1, ⟨_, rfl, by subst egg42; rfl⟩, fun X15_1 hX => ?_⟩
      have bQ : Below X6.heap.size X6 X15_1 := by subst hX egg42; exact (belNew X6 _)
      have Fg42 : (X15_1.heap[g42]? = some (.cells #[.slice (some ⟨g13, 0, none⟩) 1 1] 23)) := by subst hX egg42; exact heapNew X6 _
      replace FU := (ownD_below FU bQ)
      replace FF1 := (FF1.on bQ)
      replace BB := BB.trans (bQ.mono BB.size)
      clear bQ hX egg42 ee a
      refine rs_ 3 (fun a ee => ?_)
      refine stepAppLs rfl rfl rfl (ee _) (ee _) FU Fg42 rfl (one_of hsl) (by omega) (BB).size fun v43 X15 own' gr => ⟨_, ⟨_, rfl, rfl⟩, eqw ?_⟩
      obtain ⟨BB, FF1, FU1⟩ : Below V.heap.size V X15 ∧ (Fam V.heap.size (i + 1) (updX y i (.slice (some ⟨g13, 0, none⟩) 1 1)) (xL n ln c) (xF n ln c) X15) ∧ (X15.ownsRow V.heap.size 23 1 v43 (i + 1) (lL (updX y i (.slice (some ⟨g13, 0, none⟩) 1 1)) (i + 1))) := ⟨(BB).grown gr (BB).size (fun k hk => (FU.lt k hk).1), (FF1.grown FU gr), (lL_upd y i _ ▸ own')⟩
      clear FU Fg42 ee a
      refine rf_ [(3, v43)] (h2_ t0 t4) ?_
      rintro a A ⟨t3, -⟩ ⟨t0, t4, -⟩
      refine wi_ A (h3_ t0 t3 t4) (rv_ 1 (.int .i64 ((i + 1 : Nat) : Int)) (fun a ee => execAd8 (p := i) (q := 1) rfl (ee _) rfl (by omega)) (rf_ [(4, .int .i64 ((i + 1 : Nat) : Int))] (h2_ t0 t3) ?_))
      rintro a A ⟨t4, -⟩ ⟨t0, t3, -⟩
      exact ⟨⟨i + 1, v43, updX y i (.slice (some ⟨g13, 0, none⟩) 1 1), lti, A, t0, t3, t4, BB, FU1, FF1⟩, by show n - (intOf (a.eval (.tmp 4))).toNat < n - (intOf (Act.eval _ (.tmp 4))).toNat; rw [t4, esi]; show n - (i + 1) < n - i; omega⟩
    · refine wi_ A (h4_ t0 t3 t4 t5) (rv_ 2 (.pointer (some ⟨adB cv, adO cv + i, none⟩)) (fun a ee => execIdxLs (k := i) (hL.on BB) rfl (ee _) (ee _) lti) (rv_ 3 (xv i) (fun a ee => execLdLs (k := i) (hL.on BB) rfl (ee _) lti) (rc_ 4 ((hr ▸ rright28 (c i) (ln i) (xv i) X5 ((hL.on BB).cell i lti))) (cb_ fun X6 bQ => ?_))))
      replace FU := (ownD_below FU bQ)
      replace FB := (FB.trans (bQ.mono FB.size))
      replace Fg13 := (on9 Fg13 bQ)
      replace BB := BB.trans (bQ.mono BB.size)
      clear bQ
      refine rf_ [(18, .bool true)] (h4_ t0 t3 t4 t5) ?_
      rintro a A ⟨t18, -⟩ ⟨t0, t3, t4, t5, -⟩
      refine wp_cond_true t18 ?_
      clear t18
      clear Fg13 FGg13
      refine wp_seq ?_
      refine wi_ A (h4_ t0 t3 t4 t5) (rc_ 2 (rothers n i cv xv ln c X6 (hL.on BB) (by omega) lti hr) fun e X7 hh => ?_)
      obtain ⟨⟨v21, f, he, hk, hj⟩, hb⟩ := hh
      refine ⟨_, he, ?_⟩
      have bQ : Below X6.heap.size X6 X7 := hb
      have FI : (X7.ownsRow XL3.heap.size 3 1 v21 (cnt (otQ ln c i) n) (intsL (cnt (otQ ln c i) n) f)) := ownD_base hk (FB).size
      have FJ : (0 < cnt (otQ ln c i) n → f 0 = ((fst_ (otQ ln c i) n : Nat) : Int)) := hj
      replace FU := (ownD_below FU bQ)
      replace FB := (FB.trans (bQ.mono FB.size))
      replace BB := BB.trans (bQ.mono BB.size)
      clear bQ
      refine rf_ [(6, v21)] (h3_ t0 t3 t4) ?_
      rintro a A ⟨t6, -⟩ ⟨t0, t3, t4, -⟩
      have hln : ∃ a_ c_, v21 = .slice a_ (cnt (otQ ln c i) n) c_ := ownQ_shape FI
      refine wp_seq ?_
      refine wi_ A (h4_ t0 t3 t4 t6) (rv_ 1 (.int .i64 ((cnt (otQ ln c i) n : Nat) : Int)) (fun a ee => execLenI (len := cnt (otQ ln c i) n) rfl (ee _) hln) (rf_ [(23, .int .i64 ((cnt (otQ ln c i) n : Nat) : Int))] (h4_ t0 t3 t4 t6) ?_))
      rintro a A ⟨t23, -⟩ ⟨t0, t3, t4, t6, -⟩
      refine wp_block ?_
      refine wp_seq ?_
      by_cases e0 : cnt (otQ ln c i) n = 0
      · refine wi_ A (h5_ t0 t3 t4 t6 t23) (rv_ 0 (.bool true) (fun a ee => execDec (execEqN (p := cnt (otQ ln c i) n) (q := 0) rfl (ee _) rfl) (decide_eq_true (by omega))) (rf_ [(25, .bool true)] (h3_ t0 t3 t4) ?_))
        rintro a A ⟨t25, -⟩ ⟨t0, t3, t4, -⟩
        refine wp_cond_true t25 ?_
        clear t25
        obtain ⟨g27, egg27⟩ : ∃ z_ : Nat, X7.heap.size = z_ := ⟨_, rfl⟩
        refine wi_ A (h3_ t0 t3 t4) (rs_ 0 (fun a ee => ?_))
        refine stepV rfl rfl (execBsU rfl) ⟨.slice (some ⟨g27, 0, none⟩) 1 1, ⟨_, rfl, by subst egg27; rfl⟩, fun X11 hX => ?_⟩
        have bQ : Below X7.heap.size X7 X11 := by subst hX egg27; exact (belNew X7 _)
        have Fg27 : (X11.heap[g27]? = some (.cells #[.int .u8 ((0 : Nat) : Int)] 5)) := by subst hX egg27; exact heapNew X7 _
        have FGg27 : (XL3.heap.size ≤ g27) := by subst hX egg27; exact (FB).size
        replace FU := (ownD_below FU bQ)
        replace FB := (FB.trans (bQ.mono FB.size))
        replace FI := (ownD_below FI bQ)
        replace BB := BB.trans (bQ.mono BB.size)
        clear bQ hX egg27 ee a
        refine rf_ [(5, .slice (some ⟨g27, 0, none⟩) 1 1)] (h3_ t0 t3 t4) ?_
        rintro a A ⟨t5, -⟩ ⟨t0, t3, t4, -⟩
        obtain ⟨eL, eF⟩ := x_one (show kdF n ln c i = 0 by unfold kdF; rw [hr, e0]; rfl) (by decide)
        have FA : (X11.ownsRow XL3.heap.size 5 1 (.slice (some ⟨g27, 0, none⟩) 1 1) (xL n ln c i) (bytesL (xL n ln c i) (xF n ln c i))) := own_lit Fg27 FGg27 eL eF
        clear Fg27
        clear FI FJ
        have FF1 : (Fam V.heap.size (i + 1) (updX y i (.slice (some ⟨g27, 0, none⟩) 1 1)) (xL n ln c) (xF n ln c) X11) := FF0.add FB hVs FA
        have hsl := ownQ_shape FA
        clear FA FB
        obtain ⟨g42, egg42⟩ : ∃ z_ : Nat, X11.heap.size = z_ := ⟨_, rfl⟩
        refine wi_ A (h4_ t0 t3 t4 t5) (rs_ 2 (fun a ee => ?_))
        refine stepV rfl rfl (execBsL rfl (ee _) (by obtain ⟨q1, q2, q3⟩ := hsl; exact ⟨q1, _, q2, q3⟩)) ⟨.slice (some ⟨g42, 0, none⟩) 1 1, ⟨_, rfl, by subst egg42; rfl⟩, fun X15_1 hX => ?_⟩
        have bQ : Below X11.heap.size X11 X15_1 := by subst hX egg42; exact (belNew X11 _)
        have Fg42 : (X15_1.heap[g42]? = some (.cells #[.slice (some ⟨g27, 0, none⟩) 1 1] 23)) := by subst hX egg42; exact heapNew X11 _
        replace FU := (ownD_below FU bQ)
        replace FF1 := (FF1.on bQ)
        replace BB := BB.trans (bQ.mono BB.size)
        clear bQ hX egg42 ee a
        refine rs_ 3 (fun a ee => ?_)
        refine stepAppLs rfl rfl rfl (ee _) (ee _) FU Fg42 rfl (one_of hsl) (by omega) (BB).size fun v43 X15 own' gr => ⟨_, ⟨_, rfl, rfl⟩, eqw ?_⟩
        obtain ⟨BB, FF1, FU1⟩ : Below V.heap.size V X15 ∧ (Fam V.heap.size (i + 1) (updX y i (.slice (some ⟨g27, 0, none⟩) 1 1)) (xL n ln c) (xF n ln c) X15) ∧ (X15.ownsRow V.heap.size 23 1 v43 (i + 1) (lL (updX y i (.slice (some ⟨g27, 0, none⟩) 1 1)) (i + 1))) := ⟨(BB).grown gr (BB).size (fun k hk => (FU.lt k hk).1), (FF1.grown FU gr), (lL_upd y i _ ▸ own')⟩
        clear FU Fg42 ee a
        refine rf_ [(3, v43)] (h2_ t0 t4) ?_
        rintro a A ⟨t3, -⟩ ⟨t0, t4, -⟩
        refine wi_ A (h3_ t0 t3 t4) (rv_ 1 (.int .i64 ((i + 1 : Nat) : Int)) (fun a ee => execAd8 (p := i) (q := 1) rfl (ee _) rfl (by omega)) (rf_ [(4, .int .i64 ((i + 1 : Nat) : Int))] (h2_ t0 t3) ?_))
        rintro a A ⟨t4, -⟩ ⟨t0, t3, -⟩
        exact ⟨⟨i + 1, v43, updX y i (.slice (some ⟨g27, 0, none⟩) 1 1), lti, A, t0, t3, t4, BB, FU1, FF1⟩, by show n - (intOf (a.eval (.tmp 4))).toNat < n - (intOf (Act.eval _ (.tmp 4))).toNat; rw [t4, esi]; show n - (i + 1) < n - i; omega⟩
      refine wi_ A (h5_ t0 t3 t4 t6 t23) (rv_ 0 (.bool false) (fun a ee => execDec (execEqN (p := cnt (otQ ln c i) n) (q := 0) rfl (ee _) rfl) (decide_eq_false (by omega))) (rf_ [(25, .bool false)] (h5_ t0 t3 t4 t6 t23) ?_))
      rintro a A ⟨t25, -⟩ ⟨t0, t3, t4, t6, t23, -⟩
      refine wp_cond_false t25 ?_
      clear t25
      refine wp_seq ?_
      by_cases e1 : cnt (otQ ln c i) n = 1
      · refine wi_ A (h5_ t0 t3 t4 t6 t23) (rv_ 0 (.bool true) (fun a ee => execDec (execEqN (p := cnt (otQ ln c i) n) (q := 1) rfl (ee _) rfl) (decide_eq_true (by omega))) (rf_ [(28, .bool true)] (h4_ t0 t3 t4 t6) ?_))
        rintro a A ⟨t28, -⟩ ⟨t0, t3, t4, t6, -⟩
        refine wp_cond_true t28 ?_
        clear t28
        refine wp_seq ?_
        obtain ⟨g30, egg30⟩ : ∃ z_ : Nat, X7.heap.size = z_ := ⟨_, rfl⟩
        refine wi_ A (h4_ t0 t3 t4 t6) (rs_ 0 (fun a ee => ?_))
        refine stepV rfl rfl (execBsU rfl) ⟨.slice (some ⟨g30, 0, none⟩) 1 1, ⟨_, rfl, by subst egg30; rfl⟩, fun X13 hX => ?_⟩
        have bQ : Below X7.heap.size X7 X13 := by subst hX egg30; exact (belNew X7 _)
        have Fg30 : (X13.heap[g30]? = some (.cells #[.int .u8 ((1 : Nat) : Int)] 5)) := by subst hX egg30; exact heapNew X7 _
        have FGg30 : (XL3.heap.size ≤ g30) := by subst hX egg30; exact (FB).size
        replace FU := (ownD_below FU bQ)
        replace FB := (FB.trans (bQ.mono FB.size))
        replace FI := (ownD_below FI bQ)
        replace BB := BB.trans (bQ.mono BB.size)
        clear bQ hX egg30 ee a
        refine rf_ [(5, .slice (some ⟨g30, 0, none⟩) 1 1)] (h4_ t0 t3 t4 t6) ?_
        rintro a A ⟨t5, -⟩ ⟨t0, t3, t4, t6, -⟩
        have hk1 : kdF n ln c i = 1 := by unfold kdF; rw [hr, e1]; rfl
        obtain ⟨-, -, hpa, hpo⟩ := met hk1
        have hp8 := (ot_iff.1 hpo).2.1
        have hf0 : f 0 = ((paF n ln c i : Nat) : Int) := FJ (by omega)
        have FO : (X13.ownsRow XL3.heap.size 5 1 (.slice (some ⟨g30, 0, none⟩) 1 1) (1) (bytesL (1) (xF n ln c i))) := own_lit Fg30 FGg30 rfl (fun j hj => by obtain rfl : j = 0 := (by omega); exact (if_pos rfl).trans hk1)
        clear Fg30 FJ
        replace FI : SliceI X13 v21 1 f := own_ints (by rw [e1] at FI; exact FI) (fun j hj => by obtain rfl : j = 0 := (by omega); rw [hf0]; omega)
        refine wi_ A (h5_ t0 t3 t4 t5 t6) (rv_ 3 (.pointer (some ⟨adB v21, adO v21 + 0, none⟩)) (fun a ee => execIdxIb (k := 0) FI rfl (ee _) rfl (by omega)) (rv_ 4 (.int .i64 ((paF n ln c i : Nat) : Int)) (fun a ee => (execLdIb (k := 0) FI rfl (ee _) (by omega)).trans (by rw [hf0])) (rv_ 5 (.pointer (some ⟨adB cv, adO cv + (paF n ln c i), none⟩)) (fun a ee => execIdxLs (k := paF n ln c i) (hL.on BB) rfl (ee _) (ee _) hpa) (rv_ 6 (xv (paF n ln c i)) (fun a ee => execLdLs (k := paF n ln c i) (hL.on BB) rfl (ee _) hpa) (rv_ 7 (cutL (xv (paF n ln c i)) 8) (fun a ee => execCutL (k := 8) (((hL.on BB).cell (paF n ln c i) hpa)) rfl (ee _) rfl (by omega)) (rs_ 8 (fun a ee => ?_)))))))
        refine stepAppN (p := xF n ln c i) rfl rfl rfl (ee _) (ee _) FO (slice_cg (cutL_is (((hL.on BB).cell (paF n ln c i) hpa)) (by omega)) (fun j _ => x_met j)) (cutL_nil ((hL.on BB).cell _ hpa) (by omega)) (by omega) FB.size fun v39 X14 own' gr => ⟨_, ⟨_, rfl, rfl⟩, eqw ?_⟩
        obtain ⟨BB, FU, FB, FA⟩ : Below V.heap.size V X14 ∧ (X14.ownsRow V.heap.size 23 1 u (i) (lL y (i))) ∧ (Below XL3.heap.size XL3 X14) ∧ (X14.ownsRow XL3.heap.size 5 1 (v39) (1 + ((ln (paF n ln c i)) - 8)) (bytesL (1 + ((ln (paF n ln c i)) - 8)) (xF n ln c i))) := ⟨(BB).grown gr (BB).size (fun k hk => Nat.le_trans hVs (FO.lt k hk).1), (ownW_grown FU gr (fun k hk => row_ne8 FO FU (by decide) hk)), (FB.grown gr FB.size (fun k hk => (FO.lt k hk).1)), own'⟩
        clear FO FI ee a
        refine rf_ [(5, v39)] (h3_ t0 t3 t4) ?_
        rintro a A ⟨t5, -⟩ ⟨t0, t3, t4, -⟩
        replace FA : (X14.ownsRow XL3.heap.size 5 1 v39 (xL n ln c i) (bytesL (xL n ln c i) (xF n ln c i))) := by rw [show xL n ln c i = 1 + (ln (paF n ln c i) - 8) from if_pos hk1]; exact FA
        have FF1 : (Fam V.heap.size (i + 1) (updX y i v39) (xL n ln c) (xF n ln c) X14) := FF0.add FB hVs FA
        have hsl := ownQ_shape FA
        clear FA FB
        obtain ⟨g42, egg42⟩ : ∃ z_ : Nat, X14.heap.size = z_ := ⟨_, rfl⟩
        refine wi_ A (h4_ t0 t3 t4 t5) (rs_ 2 (fun a ee => ?_))
        refine stepV rfl rfl (execBsL rfl (ee _) (by obtain ⟨q1, q2, q3⟩ := hsl; exact ⟨q1, _, q2, q3⟩)) ⟨.slice (some ⟨g42, 0, none⟩) 1 1, ⟨_, rfl, by subst egg42; rfl⟩, fun X15_1 hX => ?_⟩
        have bQ : Below X14.heap.size X14 X15_1 := by subst hX egg42; exact (belNew X14 _)
        have Fg42 : (X15_1.heap[g42]? = some (.cells #[v39] 23)) := by subst hX egg42; exact heapNew X14 _
        replace FU := (ownD_below FU bQ)
        replace FF1 := (FF1.on bQ)
        replace BB := BB.trans (bQ.mono BB.size)
        clear bQ hX egg42 ee a
        refine rs_ 3 (fun a ee => ?_)
        refine stepAppLs rfl rfl rfl (ee _) (ee _) FU Fg42 rfl (one_of hsl) (by omega) (BB).size fun v43 X15 own' gr => ⟨_, ⟨_, rfl, rfl⟩, eqw ?_⟩
        obtain ⟨BB, FF1, FU1⟩ : Below V.heap.size V X15 ∧ (Fam V.heap.size (i + 1) (updX y i v39) (xL n ln c) (xF n ln c) X15) ∧ (X15.ownsRow V.heap.size 23 1 v43 (i + 1) (lL (updX y i v39) (i + 1))) := ⟨(BB).grown gr (BB).size (fun k hk => (FU.lt k hk).1), (FF1.grown FU gr), (lL_upd y i _ ▸ own')⟩
        clear FU Fg42 ee a
        refine rf_ [(3, v43)] (h2_ t0 t4) ?_
        rintro a A ⟨t3, -⟩ ⟨t0, t4, -⟩
        refine wi_ A (h3_ t0 t3 t4) (rv_ 1 (.int .i64 ((i + 1 : Nat) : Int)) (fun a ee => execAd8 (p := i) (q := 1) rfl (ee _) rfl (by omega)) (rf_ [(4, .int .i64 ((i + 1 : Nat) : Int))] (h2_ t0 t3) ?_))
        rintro a A ⟨t4, -⟩ ⟨t0, t3, -⟩
        exact ⟨⟨i + 1, v43, updX y i v39, lti, A, t0, t3, t4, BB, FU1, FF1⟩, by show n - (intOf (a.eval (.tmp 4))).toNat < n - (intOf (Act.eval _ (.tmp 4))).toNat; rw [t4, esi]; show n - (i + 1) < n - i; omega⟩
      refine wi_ A (h5_ t0 t3 t4 t6 t23) (rv_ 0 (.bool false) (fun a ee => execDec (execEqN (p := cnt (otQ ln c i) n) (q := 1) rfl (ee _) rfl) (decide_eq_false (by omega))) (rf_ [(28, .bool false)] (h4_ t0 t3 t4 t6) ?_))
      rintro a A ⟨t28, -⟩ ⟨t0, t3, t4, t6, -⟩
      refine wp_cond_false t28 ?_
      clear t28
      obtain ⟨g24, egg24⟩ : ∃ z_ : Nat, X7.heap.size = z_ := ⟨_, rfl⟩
      refine wi_ A (h4_ t0 t3 t4 t6) (rs_ 0 (fun a ee => ?_))
      refine stepV rfl rfl (execBsU rfl) ⟨.slice (some ⟨g24, 0, none⟩) 1 1, ⟨_, rfl, by subst egg24; rfl⟩, fun X9 hX => ?_⟩
      have bQ : Below X7.heap.size X7 X9 := by subst hX egg24; exact (belNew X7 _)
      have Fg24 : (X9.heap[g24]? = some (.cells #[.int .u8 ((2 : Nat) : Int)] 5)) := by subst hX egg24; exact heapNew X7 _
      have FGg24 : (XL3.heap.size ≤ g24) := by subst hX egg24; exact (FB).size
      replace FU := (ownD_below FU bQ)
      replace FB := (FB.trans (bQ.mono FB.size))
      replace FI := (ownD_below FI bQ)
      replace BB := BB.trans (bQ.mono BB.size)
      clear bQ hX egg24 ee a
      refine rf_ [(5, .slice (some ⟨g24, 0, none⟩) 1 1)] (h3_ t0 t3 t4) ?_
      rintro a A ⟨t5, -⟩ ⟨t0, t3, t4, -⟩
      obtain ⟨eL, eF⟩ := x_one (show kdF n ln c i = 2 by unfold kdF; rw [hr]; show min (cnt (otQ ln c i) n) 2 = 2; omega) (by decide)
      have FA : (X9.ownsRow XL3.heap.size 5 1 (.slice (some ⟨g24, 0, none⟩) 1 1) (xL n ln c i) (bytesL (xL n ln c i) (xF n ln c i))) := own_lit Fg24 FGg24 eL eF
      clear Fg24
      clear FI FJ
      have FF1 : (Fam V.heap.size (i + 1) (updX y i (.slice (some ⟨g24, 0, none⟩) 1 1)) (xL n ln c) (xF n ln c) X9) := FF0.add FB hVs FA
      have hsl := ownQ_shape FA
      clear FA FB
      obtain ⟨g42, egg42⟩ : ∃ z_ : Nat, X9.heap.size = z_ := ⟨_, rfl⟩
      refine wi_ A (h4_ t0 t3 t4 t5) (rs_ 2 (fun a ee => ?_))
      refine stepV rfl rfl (execBsL rfl (ee _) (by obtain ⟨q1, q2, q3⟩ := hsl; exact ⟨q1, _, q2, q3⟩)) ⟨.slice (some ⟨g42, 0, none⟩) 1 1, ⟨_, rfl, by subst egg42; rfl⟩, fun X15_1 hX => ?_⟩
      have bQ : Below X9.heap.size X9 X15_1 := by subst hX egg42; exact (belNew X9 _)
      have Fg42 : (X15_1.heap[g42]? = some (.cells #[.slice (some ⟨g24, 0, none⟩) 1 1] 23)) := by subst hX egg42; exact heapNew X9 _
      replace FU := (ownD_below FU bQ)
      replace FF1 := (FF1.on bQ)
      replace BB := BB.trans (bQ.mono BB.size)
      clear bQ hX egg42 ee a
      refine rs_ 3 (fun a ee => ?_)
      refine stepAppLs rfl rfl rfl (ee _) (ee _) FU Fg42 rfl (one_of hsl) (by omega) (BB).size fun v43 X15 own' gr => ⟨_, ⟨_, rfl, rfl⟩, eqw ?_⟩
      obtain ⟨BB, FF1, FU1⟩ : Below V.heap.size V X15 ∧ (Fam V.heap.size (i + 1) (updX y i (.slice (some ⟨g24, 0, none⟩) 1 1)) (xL n ln c) (xF n ln c) X15) ∧ (X15.ownsRow V.heap.size 23 1 v43 (i + 1) (lL (updX y i (.slice (some ⟨g24, 0, none⟩) 1 1)) (i + 1))) := ⟨(BB).grown gr (BB).size (fun k hk => (FU.lt k hk).1), (FF1.grown FU gr), (lL_upd y i _ ▸ own')⟩
      clear FU Fg42 ee a
      refine rf_ [(3, v43)] (h2_ t0 t4) ?_
      rintro a A ⟨t3, -⟩ ⟨t0, t4, -⟩
      refine wi_ A (h3_ t0 t3 t4) (rv_ 1 (.int .i64 ((i + 1 : Nat) : Int)) (fun a ee => execAd8 (p := i) (q := 1) rfl (ee _) rfl (by omega)) (rf_ [(4, .int .i64 ((i + 1 : Nat) : Int))] (h2_ t0 t3) ?_))
      rintro a A ⟨t4, -⟩ ⟨t0, t3, -⟩
      exact ⟨⟨i + 1, v43, updX y i (.slice (some ⟨g24, 0, none⟩) 1 1), lti, A, t0, t3, t4, BB, FU1, FF1⟩, by show n - (intOf (a.eval (.tmp 4))).toNat < n - (intOf (Act.eval _ (.tmp 4))).toNat; rw [t4, esi]; show n - (i + 1) < n - i; omega⟩
  · rw [decide_eq_false lti] at t10
    refine wp_cond_false t10 ?_
    refine wp_exit ?_
    first | with_reducible refine exit_in ?_ | with_reducible refine exit_then (exit_in ?_) | with_reducible refine exit_then (exit_then (exit_in ?_)) | refine exit_in ?_ | refine exit_then (exit_in ?_) | refine exit_then (exit_then (exit_in ?_))
    clear t10 esi
    obtain rfl : i = n := by omega
    refine wp_seq ?_
    refine wi_ A (h3_ t0 t3 t4) (rg_ [(2, u)] ?_)
    rintro a A ⟨t2, -⟩
    refine wp_ret ?_
    repeat (first | with_reducible refine ret_in ?_ | with_reducible refine ret_then ?_)
    refine bodyPost_ret (results_tmp rfl _ _ _) A.2 ⟨⟨_, y, ?_, FU, FF, fun t _ j hj => xF_lt (fun k hk => (hL.cell k hk).bytes) j hj⟩, BB⟩
    show Ending.returned (a.eval (.tmp 2)) = _
    rw [t2]
end Go.Proofs.Ytcibogmghagpoaa.Dro
