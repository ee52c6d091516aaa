import Derived.Test.YtialghojibjknaaP8g
import Derived.WalkKit
namespace Go.Proofs.Ytialghojibjknaa.Duc
open Go.RowKit Gf8 Aes By8 Cel Cf Win Drw Prm
/- DuctScripts. Written by tools/mkP8h.py. -/

theorem execMul18 {o : Oper} {a : Act} {w : World} {x y : Operand} {p q : Nat} (ho : o.op = .binOp .mul 3 x y 3) (hx : a.eval x = .int .i64 ((p : Nat) : Int)) (hy : a.eval y = .int .i64 ((q : Nat) : Int)) (h : p * q < 1000) : (execOp a.eval o).run Try.prog w = .ok (.value (.int .i64 ((p * q : Nat) : Int))) w := by
  have ew : IntKind.i64.wrap ((p : Int) * q) = ((p * q : Nat) : Int) := by
    rw [← Int.natCast_mul]
    simp [IntKind.wrap, IntKind.bits, IntKind.signed]
    omega
  unfold execOp
  simp only [ho, hx, hy]
  simp [go_sem, ew]
theorem sq3 {i : Nat} (h : i < 3) : i * i < 1000 ∧ i * i ≤ 1024 := by
  have : i = 0 ∨ i = 1 ∨ i = 2 := by omega
  rcases this with rfl | rfl | rfl <;> decide
theorem fl_on {W X : World} {fa : Nat → Nat → Prop} (h : ∀ j, j < 4 → ∀ q, fa j q → q < W.heap.size) (hb : Below W.heap.size W X) : ∀ j, j < 4 → ∀ q, fa j q → q < X.heap.size := fun j hj q hq => Nat.lt_of_lt_of_le (h j hj q hq) hb.size
/-- The block of the next book, in no duct's memory. -/
def G14 (W : World) (fa : Nat → Nat → Prop) (g : Nat) (r : Value) (k : Int) (c : Bool) : Prop := W.heap[g]? = some (.cells (dC r k c) 32) ∧ ∀ j, j < 4 → ¬ fa j g
theorem G14.on {W X : World} {fa : Nat → Nat → Prop} {g : Nat} {r : Value} {k : Int} {c : Bool} (h : G14 W fa g r k c) (hb : Below W.heap.size W X) : G14 X fa g r k c := ⟨on9 h.1 hb, h.2⟩
theorem G14.play {X Y : World} {fa F : Nat → Nat → Prop} {F' : Nat → Prop} {g m : Nat} {r : Value} {k : Int} {c : Bool} (h : G14 X fa g r k c) (e : fa = F) (hm : m < 4) (hsub : ∀ q, F' q → F m q ∨ X.heap.size ≤ q) (hsv : Saved (F m) X Y) : G14 Y (up F m F') g r k c := by
  subst e
  refine ⟨bk_saved h.1 hsv (h.2 m hm), fun j hj h2 => ?_⟩
  by_cases q : j = m
  · subst q
    rw [up_at] at h2
    exact (hsub g h2).elim (h.2 j hj) (fun h3 => Nat.not_lt.2 h3 (Array.getElem?_eq_some_iff.1 h.1).1)
  · rw [up_ne _ _ q] at h2
    exact h.2 j hj h2
theorem newI_o (I : ImplI) (s : Int) (q : Nat) (e : s = ((q : Nat) : Int)) (hk : q ≤ 1024) (V : World) (x : Nat → Value) : Calls Try.prog 6 #[.int .i64 s] V fun e w' => ∃ b F, e = .returned (.tuple #[.pointer (some ⟨b, 0, none⟩), .int .i64 ((0 : Nat) : Int)]) ∧ I.R w' F (.pointer (some ⟨b, 0, none⟩)) x 0 q false ∧ (∀ q, F q → V.heap.size ≤ q) ∧ Below V.heap.size V w' := by
  subst e; exact I.new_o q hk V x
theorem newI_b (I : ImplI) (s : Int) (hs : ¬ (0 ≤ s ∧ s ≤ 1024)) (V : World) (x : Nat → Value) : Calls Try.prog 6 #[.int .i64 s] V fun e w' => ∃ F, e = .returned (.tuple #[.pointer none, .int .i64 ((2 : Nat) : Int)]) ∧ I.R w' F (.pointer none) x 0 0 true ∧ (∀ q, F q → V.heap.size ≤ q) ∧ Below V.heap.size V w' :=
  (I.new_b s hs V).mono fun _ w' ⟨he, hb⟩ => ⟨fun _ => False, he, I.nil w' x, fun _ h => h.elim, hb⟩
theorem rnew_o (s : Int) (V : World) (h : 0 ≤ s ∧ s ≤ 1024) : Calls Try.prog 8 #[.int .i64 s] V fun e w' => e = .returned (.int .i64 ((0 : Nat) : Int)) ∧ w' = V := by
  have h1 := rnew18 s V
  rw [show cE s = 0 from if_pos h] at h1
  exact h1
theorem rnew_b (s : Int) (V : World) (h : ¬ (0 ≤ s ∧ s ≤ 1024)) : Calls Try.prog 8 #[.int .i64 s] V fun e w' => e = .returned (.int .i64 ((2 : Nat) : Int)) ∧ w' = V := by
  have h1 := rnew18 s V
  rw [show cE s = 2 from if_neg h] at h1
  exact h1
set_option maxRecDepth 100000 in
set_option maxHeartbeats 4000000 in
/-- DuctScripts. -/
theorem scripts18 (I : ImplI) (sv : Value) (l : Nat) (kd wh ix : Nat → Int) (V : World) (hP : Sp3 V sv l kd wh ix) (hl : l ≤ 17592186044416) :
    Calls Try.prog 3 #[sv] V fun e w' => e = .returned (.bool true) ∧ Below V.heap.size V w' := by
  go_enter Try.func3, Try.ntmps3
  refine wo_ 135 [(0, sv)] ?_
  rintro a A ⟨t0, -⟩
  have BW : Below V.heap.size V V := Below.refl _ _
  have BB : Below V.heap.size V V := Below.refl _ _
  refine wp_seq ?_
  refine wi_ A (h1_ t0) (rf_ [] (h1_ t0) ?_)
  rintro a A - ⟨t0, -⟩
  refine wp_seq ?_
  refine wp_seq ?_
  refine wi_ A (h1_ t0) (rc_ 0 (awake18 I V) (cb_ fun X1 bQ => ?_))
  replace BB := BB.trans (bQ.mono BB.size)
  clear bQ
  refine rv_ 1 (.bool false) (fun a ee => execNot8 (b := true) rfl (ee _)) (rf_ [(19, .bool false)] (h1_ t0) ?_)
  rintro a A ⟨t19, -⟩ ⟨t0, -⟩
  refine wp_cond_false t19 ?_
  refine wp_skip ?_
  clear t19
  refine wp_seq ?_
  obtain ⟨dsb, egdsb⟩ : ∃ z_ : Nat, X1.heap.size = z_ := ⟨_, rfl⟩
  refine wi_ A (h1_ t0) (rs_ 0 (fun a ee => ?_))
  refine stepV rfl rfl (execMkDs rfl rfl rfl) ⟨.slice (some ⟨dsb, 0, none⟩) 4 4, ⟨_, rfl, by subst egdsb; rfl⟩, fun X3 hX => ?_⟩
  have bQ : Below X1.heap.size X1 X3 := by subst hX egdsb; exact (belNew X1 _)
  have FD : (X3.heap[dsb]? = some (.cells (c4 fun _ => .pointer none) 26)) := by subst hX egdsb; exact heapNew X1 _
  have FDg : (V.heap.size ≤ dsb) := by subst hX egdsb; exact (BB).size
  replace BB := BB.trans (bQ.mono BB.size)
  clear bQ hX egdsb ee a
  refine rf_ [(3, .slice (some ⟨dsb, 0, none⟩) 4 4)] (h1_ t0) ?_
  rintro a A ⟨t3, -⟩ ⟨t0, -⟩
  refine wp_seq ?_
  obtain ⟨bkb, egbkb⟩ : ∃ z_ : Nat, X3.heap.size = z_ := ⟨_, rfl⟩
  refine wi_ A (h2_ t0 t3) (rs_ 0 (fun a ee => ?_))
  refine stepV rfl rfl (execMkBk rfl rfl rfl) ⟨.slice (some ⟨bkb, 0, none⟩) 4 4, ⟨_, rfl, by subst egbkb; rfl⟩, fun X4 hX => ?_⟩
  have bQ : Below X3.heap.size X3 X4 := by subst hX egbkb; exact (belNew X3 _)
  have FB : (X4.heap[bkb]? = some (.cells (b4 (fun _ => .slice none 0 0) (fun _ => 0) (fun _ => false)) 32)) := by subst hX egbkb; exact heapNew X3 _
  have FBg : (V.heap.size ≤ bkb) := by subst hX egbkb; exact (BB).size
  replace FD := (on9 FD bQ)
  replace BB := BB.trans (bQ.mono BB.size)
  clear bQ hX egbkb ee a
  refine rf_ [(4, .slice (some ⟨bkb, 0, none⟩) 4 4)] (h2_ t0 t3) ?_
  rintro a A ⟨t4, -⟩ ⟨t0, t3, -⟩
  have FQ := Scs.begin I FD FB FDg FBg
  clear FDg FBg
  refine wp_seq ?_
  refine wp_seq ?_
  refine wi_ A (h3_ t0 t3 t4) (rf_ [(22, .int .i64 ((0 : Nat) : Int))] (h3_ t0 t3 t4) ?_)
  rintro a A ⟨t22, -⟩ ⟨t0, t3, t4, -⟩
  refine wp_block ?_
  refine wp_loop (fun a W => ∃ (i : Nat) (F : (Nat → Nat → Prop)) (v : (Nat → Value)) (r : (Nat → Value)) (z : (Nat → Nat → Int)) (n : (Nat → Nat)) (k : (Nat → Nat)) (c : (Nat → Bool)), i ≤ 3 ∧ (∀ j, j < 4 → c j = decide (i ≤ j)) ∧ (r 3 = .slice none 0 0) ∧ (k 3 = 0) ∧ (a.tmps.size = 135 ∧ a.defers = []) ∧ a.eval (.tmp 0) = sv ∧ a.eval (.tmp 3) = .slice (some ⟨dsb, 0, none⟩) 4 4 ∧ a.eval (.tmp 4) = .slice (some ⟨bkb, 0, none⟩) 4 4 ∧ a.eval (.tmp 22) = .int .i64 ((i : Nat) : Int) ∧ Below V.heap.size V W ∧ (W.heap[dsb]? = some (.cells (c4 v) 26)) ∧ (W.heap[bkb]? = some (.cells (b4 r (kI k) (fun _ => false)) 32)) ∧ (Scs I W V.heap.size dsb bkb F v r z n k c)) (fun a _ => 3 - (intOf (a.eval (.tmp 22))).toNat) ⟨0, (fun _ _ => False), (fun _ => .pointer none), (fun _ => .slice none 0 0), (fun _ _ => 0), (fun _ => 0), (fun _ => 0), (fun _ => true), Nat.zero_le _, fun j _ => (decide_eq_true (Nat.zero_le j)).symm, rfl, rfl, A, t0, t3, t4, t22, BB, FD, FB, FQ⟩ ?_
  clear A t0 t3 t4 t22 BB FD FB FQ a
  rintro a XL6 ⟨i, F, v, r, z, n, k, c, hi, hc, hr, hk3, A, t0, t3, t4, t22, BB, FD, FB, FQ⟩
  have esi := t22
  refine wp_seq ?_
  refine wi_ A (h4_ t0 t3 t4 t22) (rv_ 0 (.bool (decide (i < 3))) (fun a ee => execLtW (p := i) (q := 3) rfl (ee _) rfl) (rf_ [(23, .bool (decide (i < 3)))] (h4_ t0 t3 t4 t22) ?_))
  rintro a A ⟨t23, -⟩ ⟨t0, t3, t4, t22, -⟩
  refine wp_seq ?_
  by_cases lti : i < 3
  · rw [decide_eq_true lti] at t23
    refine wp_cond_true t23 ?_
    refine wp_skip ?_
    clear t23
    refine wp_seq ?_
    refine wp_block ?_
    have hm : i < 4 := by omega
    refine wp_seq ?_
    refine wi_ A (h4_ t0 t3 t4 t22) (rf_ [(5, .int .i64 ((i : Nat) : Int))] (h4_ t0 t3 t4 t22) ?_)
    rintro a A ⟨t5, -⟩ ⟨t0, t3, t4, t22, -⟩
    refine wp_seq ?_
    refine wi_ A (h5_ t0 t3 t4 t22 t5) (rv_ 2 (.int .i64 ((i * i : Nat) : Int)) (fun a ee => execMul18 (p := i) (q := i) rfl (ee _) (ee _) (sq3 lti).1) (rc_ 3 (newI_o I ((i * i : Nat) : Int) (i * i) rfl (sq3 lti).2 XL6 (zI (z i))) fun e X8 hh => ?_))
    obtain ⟨db, fp, he, hk, hf, hb⟩ := hh
    refine ⟨_, he, ?_⟩
    have bQ : Below XL6.heap.size XL6 X8 := hb
    have FQn : (Scs I X8 V.heap.size dsb bkb (up F i fp) (up v i (.pointer (some ⟨db, 0, none⟩))) (up r i (.slice none 0 0)) z (up n i 0) (up k i (i * i)) (up c i false)) := FQ.fresh hm hk hf hb (BB).size
    replace FD := (on9 FD bQ)
    replace FB := (on9 FB bQ)
    replace BB := BB.trans (bQ.mono BB.size)
    clear FQ bQ
    refine rf_ [(6, .pointer (some ⟨db, 0, none⟩)), (7, .int .i64 ((0 : Nat) : Int))] (h5_ t0 t3 t4 t22 t5) ?_
    rintro a A ⟨t6, t7, -⟩ ⟨t0, t3, t4, t22, t5, -⟩
    refine wp_seq ?_
    refine wp_seq ?_
    refine wi_ A (h7_ t0 t3 t4 t22 t5 t6 t7) (rv_ 1 (.bool false) (fun a ee => execDec (execErneq (p := 0) (q := 0) rfl (ee _)) (by decide)) (rv_ 4 (.bool false) (fun a ee => execDIeqls rfl (ee _)) (rf_ [(37, .bool false)] (h6_ t0 t3 t4 t22 t5 t6) ?_)))
    rintro a A ⟨t37, -⟩ ⟨t0, t3, t4, t22, t5, t6, -⟩
    refine wp_cond_false t37 ?_
    refine wp_skip ?_
    clear t37
    refine wi_ A (h6_ t0 t3 t4 t22 t5 t6) (rv_ 7 (.int .i64 ((i * i : Nat) : Int)) (fun a ee => execMul18 (p := i) (q := i) rfl (ee _) (ee _) (sq3 lti).1) (rv_ 8 (.agg (dC (.slice none 0 0) ((i * i : Nat) : Int) false)) (fun a ee => execBuK rfl (ee _)) (rv_ 9 (.pointer (some ⟨dsb, i, none⟩)) (fun a ee => execIdxDs (k := i) rfl (ee _) (ee _) hm) (rs_ 10 (fun a ee => ?_)))))
    refine stepS rfl rfl (execStDp rfl (ee _) (ee _) ⟨_, rfl⟩ (cell18 FD (c4_at _ hm)) (frozen4 FD)) ⟨_, ⟨_, rfl, rfl⟩, fun X11_1 hX => ?_⟩
    obtain ⟨BB, FB, FQn, FDn⟩ : Below V.heap.size V X11_1 ∧ (X11_1.heap[bkb]? = some (.cells (b4 r (kI k) (fun _ => false)) 32)) ∧ (Scs I X11_1 V.heap.size dsb bkb (up F i fp) (up v i (.pointer (some ⟨db, 0, none⟩))) (up r i (.slice none 0 0)) z (up n i 0) (up k i (i * i)) (up c i false)) ∧ (X11_1.heap[dsb]? = some (.cells (c4 (up v i (.pointer (some ⟨db, 0, none⟩)))) 26)) := by subst hX; exact ⟨(BB).setCell (p := ⟨dsb, i, none⟩) FQn.gb.1 _, (keepT FB FD (by decide) grC18), (Scs.grown FQn FD (by decide) (fun j hj => (FQn.bof j hj).1) grC18), c4_st FD hm _⟩
    clear FD hX ee a
    refine rv_ 11 (.pointer (some ⟨bkb, i * 3, none⟩)) (fun a ee => execIdxBk (k := i) rfl (ee _) (ee _) hm) (rs_ 12 (fun a ee => ?_))
    refine stepS rfl rfl (execStBk rfl (ee _) (ee _) FB hm ⟨_, _, _, rfl⟩) ⟨_, ⟨_, rfl, rfl⟩, fun X11 hX => ?_⟩
    obtain ⟨BB, FQn, FDn, FBn⟩ : Below V.heap.size V X11 ∧ (Scs I X11 V.heap.size dsb bkb (up F i fp) (up v i (.pointer (some ⟨db, 0, none⟩))) (up r i (.slice none 0 0)) z (up n i 0) (up k i (i * i)) (up c i false)) ∧ (X11.heap[dsb]? = some (.cells (c4 (up v i (.pointer (some ⟨db, 0, none⟩)))) 26)) ∧ (X11.heap[bkb]? = some (.cells (b4 (up r i (.slice none 0 0)) (up (kI k) i ((i * i : Nat) : Int)) (up (fun _ => false) i false)) 32)) := by subst hX; exact ⟨below4 BB FQn.gb.2 _, (Scs.grown FQn FB (by decide) (fun j hj => (FQn.bof j hj).2) grR18), (keepT FDn FB (by decide) grR18), setRow_heap _ _ _ _ _ _ FB⟩
    clear FB hX ee a
    refine rf_ [] (h4_ t0 t3 t4 t22) ?_
    rintro a A - ⟨t0, t3, t4, t22, -⟩
    rw [b4_cg (r' := (up r i (.slice none 0 0))) (k' := kI (up k i (i * i))) (c' := fun _ => false) (fun _ _ => rfl) (fun j _ => by by_cases e : j = i; rw [e, up_at]; unfold kI; rw [up_at]; rw [up_ne _ _ e]; unfold kI; rw [up_ne _ _ e]) (fun j _ => by by_cases e : j = i; rw [e, up_at]; rw [up_ne _ _ e])] at FBn
    have hcn : ∀ j, j < 4 → (up c i false) j = decide (i + 1 ≤ j) := fun j hj => by by_cases e : j = i; rw [e, up_at]; exact (decide_eq_false (by omega)).symm; rw [up_ne _ _ e, hc j hj]; exact decide_eq_decide.2 (by omega)
    have hrn : (up r i (.slice none 0 0)) 3 = .slice none 0 0 := by rw [up_ne _ _ (by omega)]; exact hr
    have hkn : (up k i (i * i)) 3 = 0 := by rw [up_ne _ _ (by omega)]; exact hk3
    have FD := FDn
    clear FDn
    have FB := FBn
    clear FBn
    have FQ := FQn
    clear FQn
    refine wi_ A (h4_ t0 t3 t4 t22) (rv_ 0 (.int .i64 ((i + 1 : Nat) : Int)) (fun a ee => execAd8 (p := i) (q := 1) rfl (ee _) rfl (by omega)) (rf_ [(22, .int .i64 ((i + 1 : Nat) : Int))] (h3_ t0 t3 t4) ?_))
    rintro a A ⟨t22, -⟩ ⟨t0, t3, t4, -⟩
    exact ⟨⟨i + 1, (up F i fp), (up v i (.pointer (some ⟨db, 0, none⟩))), (up r i (.slice none 0 0)), z, (up n i 0), (up k i (i * i)), (up c i false), lti, hcn, hrn, hkn, A, t0, t3, t4, t22, BB, FD, FB, FQ⟩, by show 3 - (intOf (a.eval (.tmp 22))).toNat < 3 - (intOf (Act.eval _ (.tmp 22))).toNat; rw [t22, esi]; show 3 - (i + 1) < 3 - i; omega⟩
  rw [decide_eq_false lti] at t23
  refine wp_cond_false t23 ?_
  refine wp_exit ?_
  first | with_reducible refine exit_in ?_ | with_reducible refine exit_then (exit_in ?_) | with_reducible refine exit_then (exit_then (exit_in ?_)) | refine exit_in ?_ | refine exit_then (exit_in ?_) | refine exit_then (exit_then (exit_in ?_))
  clear t23 esi
  have ei : i = 3 := by omega
  subst ei
  refine wp_seq ?_
  refine wi_ A (h4_ t0 t3 t4 t22) (rv_ 1 (.agg (dC (.slice none 0 0) ((0 : Nat) : Int) true)) (fun a ee => execBuC rfl) (rv_ 2 (.pointer (some ⟨bkb, 3 * 3, none⟩)) (fun a ee => execIdxBk (k := 3) rfl (ee _) rfl (show 3 < 4 by omega)) (rs_ 3 (fun a ee => ?_))))
  refine stepS rfl rfl (execStBk rfl (ee _) (ee _) FB (show 3 < 4 by omega) ⟨_, _, _, rfl⟩) ⟨_, ⟨_, rfl, rfl⟩, fun X13 hX => ?_⟩
  obtain ⟨BB, FD, FQ, FBn⟩ : Below V.heap.size V X13 ∧ (X13.heap[dsb]? = some (.cells (c4 v) 26)) ∧ (Scs I X13 V.heap.size dsb bkb F v r z n k c) ∧ (X13.heap[bkb]? = some (.cells (b4 (up r 3 (.slice none 0 0)) (up (kI k) 3 ((0 : Nat) : Int)) (up (fun _ => false) 3 true)) 32)) := by subst hX; exact ⟨below4 BB FQ.gb.2 _, (keepT FD FB (by decide) grR18), (Scs.grown FQ FB (by decide) (fun j hj => (FQ.bof j hj).2) grR18), setRow_heap _ _ _ _ _ _ FB⟩
  clear FB hX ee a
  refine rf_ [] (h3_ t0 t3 t4) ?_
  rintro a A - ⟨t0, t3, t4, -⟩
  rw [b4_cg (r' := r) (k' := kI k) (c' := c) (fun j _ => by by_cases e : j = 3; rw [e, up_at, hr]; rw [up_ne _ _ e]) (fun j _ => by by_cases e : j = 3; rw [e, up_at]; unfold kI; rw [hk3]; rw [up_ne _ _ e]) (fun j hj => by by_cases e : j = 3; rw [e, up_at, hc 3 (by omega)]; rfl; rw [up_ne _ _ e, hc j hj]; exact (decide_eq_false (by omega)).symm)] at FBn
  have FB := FBn
  clear FBn hc hr hk3
  refine wp_seq ?_
  refine wp_seq ?_
  refine wi_ A (h3_ t0 t3 t4) (rv_ 1 (.int .i64 ((l : Nat) : Int)) (fun a ee => execLenX8 (len := l) rfl (ee _) hP.shp) (rf_ [(53, sv), (54, .int .i64 ((l : Nat) : Int)), (55, .int .i64 ((0 : Nat) : Int))] (h2_ t3 t4) ?_))
  rintro a A ⟨t53, t54, t55, -⟩ ⟨t3, t4, -⟩
  refine wp_block ?_
  refine wp_loop (fun a W => ∃ (i : Nat) (F : (Nat → Nat → Prop)) (v : (Nat → Value)) (r : (Nat → Value)) (z : (Nat → Nat → Int)) (n : (Nat → Nat)) (k : (Nat → Nat)) (c : (Nat → Bool)), i ≤ l ∧ (a.tmps.size = 135 ∧ a.defers = []) ∧ a.eval (.tmp 3) = .slice (some ⟨dsb, 0, none⟩) 4 4 ∧ a.eval (.tmp 4) = .slice (some ⟨bkb, 0, none⟩) 4 4 ∧ a.eval (.tmp 53) = sv ∧ a.eval (.tmp 54) = .int .i64 ((l : Nat) : Int) ∧ a.eval (.tmp 55) = .int .i64 ((i : Nat) : Int) ∧ Below V.heap.size V W ∧ (W.heap[dsb]? = some (.cells (c4 v) 26)) ∧ (W.heap[bkb]? = some (.cells (b4 r (kI k) c) 32)) ∧ (Scs I W V.heap.size dsb bkb F v r z n k c)) (fun a _ => l - (intOf (a.eval (.tmp 55))).toNat) ⟨0, F, v, r, z, n, k, c, Nat.zero_le _, A, t3, t4, t53, t54, t55, BB, FD, FB, FQ⟩ ?_
  clear A t3 t4 t53 t54 t55 BB FD FB FQ a
  rintro a XL15 ⟨i, F, v, r, z, n, k, c, hi, A, t3, t4, t53, t54, t55, BB, FD, FB, FQ⟩
  have esi := t55
  refine wp_seq ?_
  refine wi_ A (h5_ t3 t4 t53 t54 t55) (rv_ 0 (.bool (decide (i < l))) (fun a ee => execLtW (p := i) (q := l) rfl (ee _) (ee _)) (rf_ [(56, .bool (decide (i < l)))] (h5_ t3 t4 t53 t54 t55) ?_))
  rintro a A ⟨t56, -⟩ ⟨t3, t4, t53, t54, t55, -⟩
  refine wp_seq ?_
  by_cases lti : i < l
  · rw [decide_eq_true lti] at t56
    refine wp_cond_true t56 ?_
    refine wp_skip ?_
    clear t56
    refine wp_seq ?_
    refine wp_block ?_
    obtain ⟨pb, po, pc, ep_, hpb, hpc⟩ := hP.at (show 0 < l by omega)
    have cP : ∀ X, Below V.heap.size V X → X.rangeAt pb (po + i * 3) (xL (kd i) (wh i) (ix i)) := fun X hX => range18 (hpc i lti) hX hpb
    have hnm := hP.num i lti
    refine wp_seq ?_
    obtain ⟨g9, egg9⟩ : ∃ z_ : Nat, XL15.heap.size = z_ := ⟨_, rfl⟩
    refine wi_ A (h5_ t3 t4 t53 t54 t55) (rv_ 0 (.pointer (some ⟨pb, po + i * 3, none⟩)) (fun a ee => execIdxX8 (k := i) rfl ((ee _).trans ep_) (ee _) lti) (rv_ 1 (.agg (xC (kd i) (wh i) (ix i))) (fun a ee => execLdXr rfl (ee _) (cP XL15 BB)) (rs_ 2 (fun a ee => ?_))))
    refine stepV rfl rfl (execAlX8 rfl) ⟨.pointer (some ⟨g9, 0, none⟩), ⟨_, rfl, by subst egg9; rfl⟩, fun X16_1 hX => ?_⟩
    have bQ : Below XL15.heap.size XL15 X16_1 := by subst hX egg9; exact (belNew XL15 _)
    have Fx0 : (X16_1.heap[g9]? = some (.cells (xC 0 0 0) 34)) := by subst hX egg9; exact heapNew XL15 _
    have Fxg : (V.heap.size ≤ g9) := by subst hX egg9; exact (BB).size
    have Fxo : (∀ j, j < 4 → ¬ F j g9) := by subst hX egg9; exact fun j hj h => Nat.lt_irrefl _ (I.lt (FQ.dr j hj) _ h)
    replace FD := (on9 FD bQ)
    replace FB := (on9 FB bQ)
    replace FQ := (FQ.on bQ)
    replace BB := BB.trans (bQ.mono BB.size)
    clear bQ hX egg9 ee a
    refine rs_ 3 (fun a ee => ?_)
    refine stepS rfl rfl (execStX8 rfl (ee _) (ee _) Fx0) ⟨_, ⟨_, rfl, rfl⟩, fun X16 hX => ?_⟩
    obtain ⟨BB, FD, FB, FQ, Fx⟩ : Below V.heap.size V X16 ∧ (X16.heap[dsb]? = some (.cells (c4 v) 26)) ∧ (X16.heap[bkb]? = some (.cells (b4 r (kI k) c) 32)) ∧ (Scs I X16 V.heap.size dsb bkb F v r z n k c) ∧ (X16.heap[g9]? = some (.cells (xC (kd i) (wh i) (ix i)) 34)) := by subst hX; exact ⟨below4 BB Fxg _, (keepT FD Fx0 (by decide) grR18), (keepT FB Fx0 (by decide) grR18), (Scs.grown FQ Fx0 (by decide) Fxo grR18), setRow_heap _ _ _ _ _ _ Fx0⟩
    clear Fx0 hX ee a
    refine rf_ [(9, .pointer (some ⟨g9, 0, none⟩))] (h5_ t3 t4 t53 t54 t55) ?_
    rintro a A ⟨t9, -⟩ ⟨t3, t4, t53, t54, t55, -⟩
    refine wp_seq ?_
    refine wi_ A (h6_ t3 t4 t53 t54 t55 t9) (rv_ 0 (.pointer (some ⟨g9, 0 + 1, none⟩)) (fun a ee => execFx1 rfl (ee _)) (rv_ 1 (.int .i64 (wh i)) (fun a ee => execLd1 rfl (Or.inr (Or.inl rfl)) (ee _) (xC_at Fx).2.1) (rc_ 2 (place18 (wh i) 4 X16 hnm.1.1 hnm.1.2 (by omega) (by omega)) (cs_ (rf_ [(10, .int .i64 ((plc (wh i) 4 : Nat) : Int))] (h6_ t3 t4 t53 t54 t55 t9) ?_)))))
    rintro a A ⟨t10, -⟩ ⟨t3, t4, t53, t54, t55, t9, -⟩
    obtain ⟨m, ek⟩ : ∃ m, plc (wh i) 4 = m := ⟨_, rfl⟩
    have hm : m < 4 := by rw [← ek]; exact Nat.mod_lt _ (by omega)
    rw [ek] at t10
    refine wp_seq ?_
    refine wp_seq ?_
    by_cases hk0 : kd i = 0
    · by_cases hfit : 0 ≤ ix i ∧ ix i ≤ 1024
      · refine wi_ A (h7_ t3 t4 t53 t54 t55 t9 t10) (rv_ 0 (.pointer (some ⟨g9, 0, none⟩)) (fun a ee => execFx0 rfl (ee _)) (rv_ 1 (.int .i64 (kd i)) (fun a ee => execLd1 rfl (Or.inr (Or.inl rfl)) (ee _) (xC_at Fx).1) (rv_ 2 (.bool true) (fun a ee => execDec (exIeql3 (p := (kd i)) (q := 0) rfl (ee _) rfl) (decide_eq_true hk0)) (rf_ [(64, .bool true)] (h7_ t3 t4 t53 t54 t55 t9 t10) ?_))))
        rintro a A ⟨t64, -⟩ ⟨t3, t4, t53, t54, t55, t9, t10, -⟩
        refine wp_cond_true t64 ?_
        clear t64
        obtain ⟨q, hq⟩ : ∃ q : Nat, ix i = ((q : Nat) : Int) := ⟨(ix i).toNat, by omega⟩
        have hq4 : q ≤ 1024 := by omega
        refine wp_seq ?_
        refine wi_ A (h7_ t3 t4 t53 t54 t55 t9 t10) (rv_ 0 (.pointer (some ⟨g9, 0 + 2, none⟩)) (fun a ee => execFx2 rfl (ee _)) (rv_ 1 (.int .i64 (ix i)) (fun a ee => execLd1 rfl (Or.inr (Or.inl rfl)) (ee _) (xC_at Fx).2.2) (rc_ 2 (newI_o I (ix i) q hq hq4 X16 (zI (z m))) fun e X19 hh => ?_)))
        obtain ⟨db, fp, he, hk, hf, hb⟩ := hh
        refine ⟨_, he, ?_⟩
        have bQ : Below X16.heap.size X16 X19 := hb
        have FQn : (Scs I X19 V.heap.size dsb bkb (up F m fp) (up v m (.pointer (some ⟨db, 0, none⟩))) (up r m (.slice none 0 0)) z (up n m 0) (up k m q) (up c m false)) := FQ.fresh hm hk hf hb (BB).size
        replace FD := (on9 FD bQ)
        replace FB := (on9 FB bQ)
        replace Fx := (on9 Fx bQ)
        replace BB := BB.trans (bQ.mono BB.size)
        clear FQ bQ
        refine rf_ [(11, .pointer (some ⟨db, 0, none⟩)), (12, .int .i64 ((0 : Nat) : Int))] (h7_ t3 t4 t53 t54 t55 t9 t10) ?_
        rintro a A ⟨t11, t12, -⟩ ⟨t3, t4, t53, t54, t55, t9, t10, -⟩
        refine wp_seq ?_
        refine wi_ A (h9_ t3 t4 t53 t54 t55 t9 t10 t11 t12) (rv_ 0 (.pointer (some ⟨g9, 0 + 2, none⟩)) (fun a ee => execFx2 rfl (ee _)) (rv_ 1 (.int .i64 (ix i)) (fun a ee => execLd1 rfl (Or.inr (Or.inl rfl)) (ee _) (xC_at Fx).2.2) (rc_ 2 (rnew_o (ix i) X19 hfit) (cs_ (rf_ [(13, .int .i64 ((0 : Nat) : Int))] (h9_ t3 t4 t53 t54 t55 t9 t10 t11 t12) ?_)))))
        rintro a A ⟨t13, -⟩ ⟨t3, t4, t53, t54, t55, t9, t10, t11, t12, -⟩
        refine wp_seq ?_
        refine wp_seq ?_
        refine wi_ A (h10_ t3 t4 t53 t54 t55 t9 t10 t11 t12 t13) (rv_ 2 (.bool false) (fun a ee => execDec (exIneq3 (p := ((0 : Nat) : Int)) (q := ((0 : Nat) : Int)) rfl (ee _) (ee _)) (decide_eq_false (fun h => h rfl))) (rv_ 5 (.bool false) (fun a ee => execDIeqls rfl (ee _)) (rv_ 7 (.bool false) (fun a ee => execDec (exIneq3 (p := ((0 : Nat) : Int)) (q := 0) rfl (ee _) rfl) (decide_eq_false (fun h => h rfl))) (rv_ 8 (.bool false) (fun a ee => execNeBB18 (b := false) rfl (ee _) (ee _)) (rf_ [(83, .bool false)] (h9_ t3 t4 t53 t54 t55 t9 t10 t11 t13) ?_)))))
        rintro a A ⟨t83, -⟩ ⟨t3, t4, t53, t54, t55, t9, t10, t11, t13, -⟩
        refine wp_cond_false t83 ?_
        refine wp_skip ?_
        clear t83
        refine wp_seq ?_
        refine wp_region_stB (σ := Unit) 135 [(0, 84), (1, 85), (2, 86), (3, 87), (4, 88), (5, 89), (6, 90), (7, 91), (8, 92), (10, 93)] (fun l_ s X => Below V.heap.size V X ∧ (l_ 9 = false → (X.heap[dsb]? = some (.cells (c4 v) 26))) ∧ (l_ 11 = false → (X.heap[bkb]? = some (.cells (b4 r (kI k) c) 32))) ∧ ((V.heap.size ≤ g9)) ∧ ((∀ j, j < 4 → ¬ F j g9)) ∧ ((X.heap[g9]? = some (.cells (xC (kd i) (wh i) (ix i)) 34))) ∧ ((Scs I X V.heap.size dsb bkb (up F m fp) (up v m (.pointer (some ⟨db, 0, none⟩))) (up r m (.slice none 0 0)) z (up n m 0) (up k m q) (up c m false))) ∧ (l_ 9 = true → (X.heap[dsb]? = some (.cells (c4 (up v m (.pointer (some ⟨db, 0, none⟩)))) 26))) ∧ (l_ 11 = true → (X.heap[bkb]? = some (.cells (b4 (up r m (.slice none 0 0)) (up (kI k) m ((q : Nat) : Int)) (up c m false)) 32)))) (fun s => fun i_ => match i_ with | 0 => .slice (some ⟨dsb, 0, none⟩) 4 4 | 1 => .int .i64 ((m : Nat) : Int) | 2 => .slice (some ⟨bkb, 0, none⟩) 4 4 | 3 => .int .i64 ((m : Nat) : Int) | 4 => .pointer (some ⟨db, 0, none⟩) | 5 => .pointer (some ⟨g9, 0 + 2, none⟩) | 6 => .int .i64 (ix i) | 7 => .agg (dC (.slice none 0 0) ((q : Nat) : Int) false) | 8 => .pointer (some ⟨dsb, m, none⟩) | 9 => undef | 10 => .pointer (some ⟨bkb, m * 3, none⟩) | 11 => undef | _ => undef) () (by kernel_rfl) (by kernel_rfl) A.1 (by kernel_rfl) (by decide) (by decide) ⟨(BB.drew), (fun _ => (on9 FD (Below.refl _ _).drew)), (fun _ => (on9 FB (Below.refl _ _).drew)), (Fxg), (Fxo), ((on9 Fx (Below.refl _ _).drew)), ((FQn.on (Below.refl _ _).drew)), (fun q0_ => by cases q0_), (fun q0_ => by cases q0_)⟩ ?_ ?_
        · intro i_ hi_ l_ s a X hl_ hf hdep hl2 hcl hno hT
          have up : ∀ j x, x ≠ j → updB l_ j x = l_ x := fun j x hj => by unfold updB; simp [hj]
          match i_, hi_ with
          | 0, _ => exact stepV rfl rfl (execMvB rfl ((hf 3 (by decide)).trans t3)) ⟨s, ⟨_, rfl, rfl⟩, ⟨hT.1, (fun q0_ => (hT.2.1 (by rw [up 0 9 (by decide)] at q0_; exact q0_))), (fun q0_ => (hT.2.2.1 (by rw [up 0 11 (by decide)] at q0_; exact q0_))), (hT.2.2.2.1), (hT.2.2.2.2.1), (hT.2.2.2.2.2.1), (hT.2.2.2.2.2.2.1), (fun q0_ => absurd (hl_.symm.trans (hcl 9 _ rfl ((up 0 9 (by decide)).symm.trans q0_) 0 rfl)) (by decide)), (fun q0_ => absurd (hl_.symm.trans (hcl 11 _ rfl ((up 0 11 (by decide)).symm.trans q0_) 0 rfl)) (by decide))⟩, fun _ _ _ => rfl⟩
          | 1, _ => exact stepV rfl rfl (execMvB rfl ((hf 10 (by decide)).trans t10)) ⟨s, ⟨_, rfl, rfl⟩, ⟨hT.1, (fun q0_ => (hT.2.1 (by rw [up 1 9 (by decide)] at q0_; exact q0_))), (fun q0_ => (hT.2.2.1 (by rw [up 1 11 (by decide)] at q0_; exact q0_))), (hT.2.2.2.1), (hT.2.2.2.2.1), (hT.2.2.2.2.2.1), (hT.2.2.2.2.2.2.1), (fun q0_ => absurd (hl_.symm.trans (hcl 9 _ rfl ((up 1 9 (by decide)).symm.trans q0_) 1 rfl)) (by decide)), (fun q0_ => absurd (hl_.symm.trans (hcl 11 _ rfl ((up 1 11 (by decide)).symm.trans q0_) 1 rfl)) (by decide))⟩, fun _ _ _ => rfl⟩
          | 2, _ => exact stepV rfl rfl (execMvB rfl ((hf 4 (by decide)).trans t4)) ⟨s, ⟨_, rfl, rfl⟩, ⟨hT.1, (fun q0_ => (hT.2.1 (by rw [up 2 9 (by decide)] at q0_; exact q0_))), (fun q0_ => (hT.2.2.1 (by rw [up 2 11 (by decide)] at q0_; exact q0_))), (hT.2.2.2.1), (hT.2.2.2.2.1), (hT.2.2.2.2.2.1), (hT.2.2.2.2.2.2.1), (fun q0_ => (hT.2.2.2.2.2.2.2.1 (by rw [up 2 9 (by decide)] at q0_; exact q0_))), (fun q0_ => absurd (hl_.symm.trans (hcl 11 _ rfl ((up 2 11 (by decide)).symm.trans q0_) 2 rfl)) (by decide))⟩, fun _ _ _ => rfl⟩
          | 3, _ => exact stepV rfl rfl (execMvB rfl ((hf 10 (by decide)).trans t10)) ⟨s, ⟨_, rfl, rfl⟩, ⟨hT.1, (fun q0_ => (hT.2.1 (by rw [up 3 9 (by decide)] at q0_; exact q0_))), (fun q0_ => (hT.2.2.1 (by rw [up 3 11 (by decide)] at q0_; exact q0_))), (hT.2.2.2.1), (hT.2.2.2.2.1), (hT.2.2.2.2.2.1), (hT.2.2.2.2.2.2.1), (fun q0_ => (hT.2.2.2.2.2.2.2.1 (by rw [up 3 9 (by decide)] at q0_; exact q0_))), (fun q0_ => absurd (hl_.symm.trans (hcl 11 _ rfl ((up 3 11 (by decide)).symm.trans q0_) 3 rfl)) (by decide))⟩, fun _ _ _ => rfl⟩
          | 4, _ => exact stepV rfl rfl (execMvB rfl ((hf 11 (by decide)).trans t11)) ⟨s, ⟨_, rfl, rfl⟩, ⟨hT.1, (fun q0_ => (hT.2.1 (by rw [up 4 9 (by decide)] at q0_; exact q0_))), (fun q0_ => (hT.2.2.1 (by rw [up 4 11 (by decide)] at q0_; exact q0_))), (hT.2.2.2.1), (hT.2.2.2.2.1), (hT.2.2.2.2.2.1), (hT.2.2.2.2.2.2.1), (fun q0_ => absurd (hl_.symm.trans (hcl 9 _ rfl ((up 4 9 (by decide)).symm.trans q0_) 4 rfl)) (by decide)), (fun q0_ => absurd (hl_.symm.trans (hcl 11 _ rfl ((up 4 11 (by decide)).symm.trans q0_) 4 rfl)) (by decide))⟩, fun _ _ _ => rfl⟩
          | 5, _ => exact stepV rfl rfl (execFx2 rfl ((hf 9 (by decide)).trans t9)) ⟨s, ⟨_, rfl, rfl⟩, ⟨hT.1, (fun q0_ => (hT.2.1 (by rw [up 5 9 (by decide)] at q0_; exact q0_))), (fun q0_ => (hT.2.2.1 (by rw [up 5 11 (by decide)] at q0_; exact q0_))), (hT.2.2.2.1), (hT.2.2.2.2.1), (hT.2.2.2.2.2.1), (hT.2.2.2.2.2.2.1), (fun q0_ => (hT.2.2.2.2.2.2.2.1 (by rw [up 5 9 (by decide)] at q0_; exact q0_))), (fun q0_ => absurd (hl_.symm.trans (hcl 11 _ rfl ((up 5 11 (by decide)).symm.trans q0_) 5 rfl)) (by decide))⟩, fun _ _ _ => rfl⟩
          | 6, _ => exact stepV rfl rfl (execLd1 rfl (Or.inr (Or.inl rfl)) (hdep _ rfl 5 rfl _ rfl _ rfl) (xC_at hT.2.2.2.2.2.1).2.2) ⟨s, ⟨_, rfl, rfl⟩, ⟨hT.1, (fun q0_ => (hT.2.1 (by rw [up 6 9 (by decide)] at q0_; exact q0_))), (fun q0_ => (hT.2.2.1 (by rw [up 6 11 (by decide)] at q0_; exact q0_))), (hT.2.2.2.1), (hT.2.2.2.2.1), (hT.2.2.2.2.2.1), (hT.2.2.2.2.2.2.1), (fun q0_ => (hT.2.2.2.2.2.2.2.1 (by rw [up 6 9 (by decide)] at q0_; exact q0_))), (fun q0_ => absurd (hl_.symm.trans (hcl 11 _ rfl ((up 6 11 (by decide)).symm.trans q0_) 6 rfl)) (by decide))⟩, fun _ _ _ => rfl⟩
          | 7, _ => exact stepV rfl rfl (execBuK rfl ((hdep _ rfl 6 rfl _ rfl _ rfl).trans (congrArg (Value.int .i64) hq))) ⟨s, ⟨_, rfl, rfl⟩, ⟨hT.1, (fun q0_ => (hT.2.1 (by rw [up 7 9 (by decide)] at q0_; exact q0_))), (fun q0_ => (hT.2.2.1 (by rw [up 7 11 (by decide)] at q0_; exact q0_))), (hT.2.2.2.1), (hT.2.2.2.2.1), (hT.2.2.2.2.2.1), (hT.2.2.2.2.2.2.1), (fun q0_ => (hT.2.2.2.2.2.2.2.1 (by rw [up 7 9 (by decide)] at q0_; exact q0_))), (fun q0_ => absurd (hl_.symm.trans (hcl 11 _ rfl ((up 7 11 (by decide)).symm.trans q0_) 7 rfl)) (by decide))⟩, fun _ _ _ => rfl⟩
          | 8, _ => exact stepV rfl rfl (execIdxDs (k := m) rfl (hdep _ rfl 0 rfl _ rfl _ rfl) (hdep _ rfl 1 rfl _ rfl _ rfl) hm) ⟨s, ⟨_, rfl, rfl⟩, ⟨hT.1, (fun q0_ => (hT.2.1 (by rw [up 8 9 (by decide)] at q0_; exact q0_))), (fun q0_ => (hT.2.2.1 (by rw [up 8 11 (by decide)] at q0_; exact q0_))), (hT.2.2.2.1), (hT.2.2.2.2.1), (hT.2.2.2.2.2.1), (hT.2.2.2.2.2.2.1), (fun q0_ => absurd (hl_.symm.trans (hcl 9 _ rfl ((up 8 9 (by decide)).symm.trans q0_) 8 rfl)) (by decide)), (fun q0_ => absurd (hl_.symm.trans (hcl 11 _ rfl ((up 8 11 (by decide)).symm.trans q0_) 8 rfl)) (by decide))⟩, fun _ _ _ => rfl⟩
          | 9, _ =>
            refine stepS rfl rfl (execStDp rfl (hdep _ rfl 8 rfl _ rfl _ rfl) (hdep _ rfl 4 rfl _ rfl _ rfl) ⟨_, rfl⟩ (cell18 (hT.2.1 hl_) (c4_at _ hm)) (frozen4 (hT.2.1 hl_))) ⟨s, ⟨_, rfl, rfl⟩, ⟨(hT.1).setCell (p := ⟨dsb, m, none⟩) hT.2.2.2.2.2.2.1.gb.1 _, (fun q0_ => absurd q0_ (by unfold updB; simp)), (fun q0_ => (keepT (hT.2.2.1 (by rw [up 9 11 (by decide)] at q0_; exact q0_)) (hT.2.1 hl_) (by decide) grC18)), (hT.2.2.2.1), (hT.2.2.2.2.1), ((keepT hT.2.2.2.2.2.1 (hT.2.1 hl_) (by decide) grC18)), ((Scs.grown hT.2.2.2.2.2.2.1 (hT.2.1 hl_) (by decide) (fun j hj => (hT.2.2.2.2.2.2.1.bof j hj).1) grC18)), (fun _q0_ => c4_st (hT.2.1 hl_) hm _), (fun q0_ => absurd (hl_.symm.trans (hcl 11 _ rfl ((up 9 11 (by decide)).symm.trans q0_) 9 rfl)) (by decide))⟩, fun i hi hli => ?_⟩
            match i, hi with
            | 0, _ => rfl
            | 1, _ => rfl
            | 2, _ => rfl
            | 3, _ => rfl
            | 4, _ => rfl
            | 5, _ => rfl
            | 6, _ => rfl
            | 7, _ => rfl
            | 8, _ => rfl
            | 9, _ => exact absurd (hl_.symm.trans hli) (by decide)
            | 10, _ => rfl
            | 11, _ => rfl
            | k_ + 12, h_ => exact absurd h_ (by simp)
          | 10, _ => exact stepV rfl rfl (execIdxBk (k := m) rfl (hdep _ rfl 2 rfl _ rfl _ rfl) (hdep _ rfl 3 rfl _ rfl _ rfl) hm) ⟨s, ⟨_, rfl, rfl⟩, ⟨hT.1, (fun q0_ => absurd (q0_.symm.trans ((up 10 9 (by decide)).trans (hl2 _ rfl 9 rfl))) (by decide)), (fun q0_ => (hT.2.2.1 (by rw [up 10 11 (by decide)] at q0_; exact q0_))), (hT.2.2.2.1), (hT.2.2.2.2.1), (hT.2.2.2.2.2.1), (hT.2.2.2.2.2.2.1), (fun q0_ => (hT.2.2.2.2.2.2.2.1 (by rw [up 10 9 (by decide)] at q0_; exact q0_))), (fun q0_ => absurd (hl_.symm.trans (hcl 11 _ rfl ((up 10 11 (by decide)).symm.trans q0_) 10 rfl)) (by decide))⟩, fun _ _ _ => rfl⟩
          | 11, _ =>
            refine stepS rfl rfl (execStBk rfl (hdep _ rfl 10 rfl _ rfl _ rfl) (hdep _ rfl 7 rfl _ rfl _ rfl) (hT.2.2.1 hl_) hm ⟨_, _, _, rfl⟩) ⟨s, ⟨_, rfl, rfl⟩, ⟨below4 hT.1 hT.2.2.2.2.2.2.1.gb.2 _, (fun q0_ => absurd (q0_.symm.trans ((up 11 9 (by decide)).trans (hl2 _ rfl 9 rfl))) (by decide)), (fun q0_ => absurd q0_ (by unfold updB; simp)), (hT.2.2.2.1), (hT.2.2.2.2.1), ((keepT hT.2.2.2.2.2.1 (hT.2.2.1 hl_) (by decide) grR18)), ((Scs.grown hT.2.2.2.2.2.2.1 (hT.2.2.1 hl_) (by decide) (fun j hj => (hT.2.2.2.2.2.2.1.bof j hj).2) grR18)), (fun q0_ => (keepT (hT.2.2.2.2.2.2.2.1 (by rw [up 11 9 (by decide)] at q0_; exact q0_)) (hT.2.2.1 hl_) (by decide) grR18)), (fun _q0_ => setRow_heap _ _ _ _ _ _ (hT.2.2.1 hl_))⟩, fun i hi hli => ?_⟩
            match i, hi with
            | 0, _ => rfl
            | 1, _ => rfl
            | 2, _ => rfl
            | 3, _ => rfl
            | 4, _ => rfl
            | 5, _ => rfl
            | 6, _ => rfl
            | 7, _ => rfl
            | 8, _ => rfl
            | 9, _ => rfl
            | 10, _ => rfl
            | 11, _ => exact absurd (hl_.symm.trans hli) (by decide)
            | k_ + 12, h_ => exact absurd h_ (by simp)
          | k_ + 12, h_ => exact absurd h_ (by simp)
        rintro l_ _ a X23 h1 h2 h3 h4 hall hT
        clear BB
        clear FD
        clear FB
        clear Fxg
        clear Fxo
        clear Fx
        clear FQn
        obtain ⟨BB, FD, FB, Fxg, Fxo, Fx, FQn, FDn, FBn⟩ := hT
        clear FD
        clear FB
        replace Fxg : (V.heap.size ≤ g9) := Fxg
        replace Fxo : (∀ j, j < 4 → ¬ F j g9) := Fxo
        replace Fx : (X23.heap[g9]? = some (.cells (xC (kd i) (wh i) (ix i)) 34)) := Fx
        replace FQn : (Scs I X23 V.heap.size dsb bkb (up F m fp) (up v m (.pointer (some ⟨db, 0, none⟩))) (up r m (.slice none 0 0)) z (up n m 0) (up k m q) (up c m false)) := FQn
        replace FDn : (X23.heap[dsb]? = some (.cells (c4 (up v m (.pointer (some ⟨db, 0, none⟩)))) 26)) := FDn (hall 9 (by decide))
        replace FBn : (X23.heap[bkb]? = some (.cells (b4 (up r m (.slice none 0 0)) (up (kI k) m ((q : Nat) : Int)) (up c m false)) 32)) := FBn (hall 11 (by decide))
        clear hall
        replace t3 := (h3 3 (by decide)).trans t3
        replace t4 := (h3 4 (by decide)).trans t4
        replace t53 := (h3 53 (by decide)).trans t53
        replace t54 := (h3 54 (by decide)).trans t54
        replace t55 := (h3 55 (by decide)).trans t55
        replace t10 := (h3 10 (by decide)).trans t10
        replace t13 := (h3 13 (by decide)).trans t13
        replace A := (⟨h1, h2.trans A.2⟩ : a.tmps.size = 135 ∧ a.defers = [])
        clear h1 h2 h3 h4
        clear t9 t11
        clear Fx
        refine wp_seq ?_
        refine wp_seq ?_
        refine wi_ A (h7_ t3 t4 t53 t54 t55 t10 t13) (rv_ 1 (.bool false) (fun a ee => execDec (exIneq3 (p := ((0 : Nat) : Int)) (q := 0) rfl (ee _) rfl) (decide_eq_false (fun h => h rfl))) (rf_ [(95, .bool false)] (h6_ t3 t4 t53 t54 t55 t10) ?_))
        rintro a A ⟨t95, -⟩ ⟨t3, t4, t53, t54, t55, t10, -⟩
        refine wp_cond_false t95 ?_
        refine wp_skip ?_
        clear t95
        refine wp_exit ?_
        first | with_reducible refine exit_in ?_ | with_reducible refine exit_then (exit_in ?_) | with_reducible refine exit_then (exit_then (exit_in ?_)) | refine exit_in ?_ | refine exit_then (exit_in ?_) | refine exit_then (exit_then (exit_in ?_))
        rw [b4_cg (r' := (up r m (.slice none 0 0))) (k' := kI (up k m q)) (c' := (up c m false)) (fun _ _ => rfl) (fun j _ => by by_cases e : j = m; rw [e, up_at]; unfold kI; rw [up_at]; rw [up_ne _ _ e]; unfold kI; rw [up_ne _ _ e]) (fun _ _ => rfl)] at FBn
        have FD := FDn
        clear FDn
        have FB := FBn
        clear FBn
        have FQ := FQn
        clear FQn
        refine wi_ A (h6_ t3 t4 t53 t54 t55 t10) (rv_ 0 (.int .i64 ((i + 1 : Nat) : Int)) (fun a ee => execAd8 (p := i) (q := 1) rfl (ee _) rfl (by omega)) (rf_ [(55, .int .i64 ((i + 1 : Nat) : Int))] (h4_ t3 t4 t53 t54) ?_))
        rintro a A ⟨t55, -⟩ ⟨t3, t4, t53, t54, -⟩
        exact ⟨⟨i + 1, (up F m fp), (up v m (.pointer (some ⟨db, 0, none⟩))), (up r m (.slice none 0 0)), z, (up n m 0), (up k m q), (up c m false), lti, A, t3, t4, t53, t54, t55, BB, FD, FB, FQ⟩, by show l - (intOf (a.eval (.tmp 55))).toNat < l - (intOf (Act.eval _ (.tmp 55))).toNat; rw [t55, esi]; show l - (i + 1) < l - i; omega⟩
      · refine wi_ A (h7_ t3 t4 t53 t54 t55 t9 t10) (rv_ 0 (.pointer (some ⟨g9, 0, none⟩)) (fun a ee => execFx0 rfl (ee _)) (rv_ 1 (.int .i64 (kd i)) (fun a ee => execLd1 rfl (Or.inr (Or.inl rfl)) (ee _) (xC_at Fx).1) (rv_ 2 (.bool true) (fun a ee => execDec (exIeql3 (p := (kd i)) (q := 0) rfl (ee _) rfl) (decide_eq_true hk0)) (rf_ [(64, .bool true)] (h7_ t3 t4 t53 t54 t55 t9 t10) ?_))))
        rintro a A ⟨t64, -⟩ ⟨t3, t4, t53, t54, t55, t9, t10, -⟩
        refine wp_cond_true t64 ?_
        clear t64
        refine wp_seq ?_
        refine wi_ A (h7_ t3 t4 t53 t54 t55 t9 t10) (rv_ 0 (.pointer (some ⟨g9, 0 + 2, none⟩)) (fun a ee => execFx2 rfl (ee _)) (rv_ 1 (.int .i64 (ix i)) (fun a ee => execLd1 rfl (Or.inr (Or.inl rfl)) (ee _) (xC_at Fx).2.2) (rc_ 2 (newI_b I (ix i) hfit X16 (zI (z m))) fun e X19 hh => ?_)))
        obtain ⟨fp, he, hk, hf, hb⟩ := hh
        refine ⟨_, he, ?_⟩
        have bQ : Below X16.heap.size X16 X19 := hb
        have FQn : (Scs I X19 V.heap.size dsb bkb (up F m fp) (up v m (.pointer none)) (up r m (.slice none 0 0)) z (up n m 0) (up k m 0) (up c m true)) := FQ.fresh hm hk hf hb (BB).size
        replace FD := (on9 FD bQ)
        replace FB := (on9 FB bQ)
        replace Fx := (on9 Fx bQ)
        replace BB := BB.trans (bQ.mono BB.size)
        clear FQ bQ
        refine rf_ [(11, .pointer none), (12, .int .i64 ((2 : Nat) : Int))] (h7_ t3 t4 t53 t54 t55 t9 t10) ?_
        rintro a A ⟨t11, t12, -⟩ ⟨t3, t4, t53, t54, t55, t9, t10, -⟩
        refine wp_seq ?_
        refine wi_ A (h9_ t3 t4 t53 t54 t55 t9 t10 t11 t12) (rv_ 0 (.pointer (some ⟨g9, 0 + 2, none⟩)) (fun a ee => execFx2 rfl (ee _)) (rv_ 1 (.int .i64 (ix i)) (fun a ee => execLd1 rfl (Or.inr (Or.inl rfl)) (ee _) (xC_at Fx).2.2) (rc_ 2 (rnew_b (ix i) X19 hfit) (cs_ (rf_ [(13, .int .i64 ((2 : Nat) : Int))] (h9_ t3 t4 t53 t54 t55 t9 t10 t11 t12) ?_)))))
        rintro a A ⟨t13, -⟩ ⟨t3, t4, t53, t54, t55, t9, t10, t11, t12, -⟩
        refine wp_seq ?_
        refine wp_seq ?_
        refine wi_ A (h10_ t3 t4 t53 t54 t55 t9 t10 t11 t12 t13) (rv_ 2 (.bool false) (fun a ee => execDec (exIneq3 (p := ((2 : Nat) : Int)) (q := ((2 : Nat) : Int)) rfl (ee _) (ee _)) (decide_eq_false (fun h => h rfl))) (rv_ 5 (.bool true) (fun a ee => execDIeqln rfl (ee _)) (rv_ 7 (.bool true) (fun a ee => execDec (exIneq3 (p := ((2 : Nat) : Int)) (q := 0) rfl (ee _) rfl) (decide_eq_true (by decide))) (rv_ 8 (.bool false) (fun a ee => execNeBB18 (b := true) rfl (ee _) (ee _)) (rf_ [(83, .bool false)] (h9_ t3 t4 t53 t54 t55 t9 t10 t11 t13) ?_)))))
        rintro a A ⟨t83, -⟩ ⟨t3, t4, t53, t54, t55, t9, t10, t11, t13, -⟩
        refine wp_cond_false t83 ?_
        refine wp_skip ?_
        clear t83
        refine wp_seq ?_
        refine wp_region_stB (σ := Unit) 135 [(0, 84), (1, 85), (2, 86), (3, 87), (4, 88), (5, 89), (6, 90), (7, 91), (8, 92), (10, 93)] (fun l_ s X => Below V.heap.size V X ∧ (l_ 9 = false → (X.heap[dsb]? = some (.cells (c4 v) 26))) ∧ (l_ 11 = false → (X.heap[bkb]? = some (.cells (b4 r (kI k) c) 32))) ∧ ((V.heap.size ≤ g9)) ∧ ((∀ j, j < 4 → ¬ F j g9)) ∧ ((X.heap[g9]? = some (.cells (xC (kd i) (wh i) (ix i)) 34))) ∧ ((Scs I X V.heap.size dsb bkb (up F m fp) (up v m (.pointer none)) (up r m (.slice none 0 0)) z (up n m 0) (up k m 0) (up c m true))) ∧ (l_ 9 = true → (X.heap[dsb]? = some (.cells (c4 (up v m (.pointer none))) 26))) ∧ (l_ 11 = true → (X.heap[bkb]? = some (.cells (b4 (up r m (.slice none 0 0)) (up (kI k) m (ix i)) (up c m false)) 32)))) (fun s => fun i_ => match i_ with | 0 => .slice (some ⟨dsb, 0, none⟩) 4 4 | 1 => .int .i64 ((m : Nat) : Int) | 2 => .slice (some ⟨bkb, 0, none⟩) 4 4 | 3 => .int .i64 ((m : Nat) : Int) | 4 => .pointer none | 5 => .pointer (some ⟨g9, 0 + 2, none⟩) | 6 => .int .i64 (ix i) | 7 => .agg (dC (.slice none 0 0) (ix i) false) | 8 => .pointer (some ⟨dsb, m, none⟩) | 9 => undef | 10 => .pointer (some ⟨bkb, m * 3, none⟩) | 11 => undef | _ => undef) () (by kernel_rfl) (by kernel_rfl) A.1 (by kernel_rfl) (by decide) (by decide) ⟨(BB.drew), (fun _ => (on9 FD (Below.refl _ _).drew)), (fun _ => (on9 FB (Below.refl _ _).drew)), (Fxg), (Fxo), ((on9 Fx (Below.refl _ _).drew)), ((FQn.on (Below.refl _ _).drew)), (fun q0_ => by cases q0_), (fun q0_ => by cases q0_)⟩ ?_ ?_
        · intro i_ hi_ l_ s a X hl_ hf hdep hl2 hcl hno hT
          have up : ∀ j x, x ≠ j → updB l_ j x = l_ x := fun j x hj => by unfold updB; simp [hj]
          match i_, hi_ with
          | 0, _ => exact stepV rfl rfl (execMvB rfl ((hf 3 (by decide)).trans t3)) ⟨s, ⟨_, rfl, rfl⟩, ⟨hT.1, (fun q0_ => (hT.2.1 (by rw [up 0 9 (by decide)] at q0_; exact q0_))), (fun q0_ => (hT.2.2.1 (by rw [up 0 11 (by decide)] at q0_; exact q0_))), (hT.2.2.2.1), (hT.2.2.2.2.1), (hT.2.2.2.2.2.1), (hT.2.2.2.2.2.2.1), (fun q0_ => absurd (hl_.symm.trans (hcl 9 _ rfl ((up 0 9 (by decide)).symm.trans q0_) 0 rfl)) (by decide)), (fun q0_ => absurd (hl_.symm.trans (hcl 11 _ rfl ((up 0 11 (by decide)).symm.trans q0_) 0 rfl)) (by decide))⟩, fun _ _ _ => rfl⟩
          | 1, _ => exact stepV rfl rfl (execMvB rfl ((hf 10 (by decide)).trans t10)) ⟨s, ⟨_, rfl, rfl⟩, ⟨hT.1, (fun q0_ => (hT.2.1 (by rw [up 1 9 (by decide)] at q0_; exact q0_))), (fun q0_ => (hT.2.2.1 (by rw [up 1 11 (by decide)] at q0_; exact q0_))), (hT.2.2.2.1), (hT.2.2.2.2.1), (hT.2.2.2.2.2.1), (hT.2.2.2.2.2.2.1), (fun q0_ => absurd (hl_.symm.trans (hcl 9 _ rfl ((up 1 9 (by decide)).symm.trans q0_) 1 rfl)) (by decide)), (fun q0_ => absurd (hl_.symm.trans (hcl 11 _ rfl ((up 1 11 (by decide)).symm.trans q0_) 1 rfl)) (by decide))⟩, fun _ _ _ => rfl⟩
          | 2, _ => exact stepV rfl rfl (execMvB rfl ((hf 4 (by decide)).trans t4)) ⟨s, ⟨_, rfl, rfl⟩, ⟨hT.1, (fun q0_ => (hT.2.1 (by rw [up 2 9 (by decide)] at q0_; exact q0_))), (fun q0_ => (hT.2.2.1 (by rw [up 2 11 (by decide)] at q0_; exact q0_))), (hT.2.2.2.1), (hT.2.2.2.2.1), (hT.2.2.2.2.2.1), (hT.2.2.2.2.2.2.1), (fun q0_ => (hT.2.2.2.2.2.2.2.1 (by rw [up 2 9 (by decide)] at q0_; exact q0_))), (fun q0_ => absurd (hl_.symm.trans (hcl 11 _ rfl ((up 2 11 (by decide)).symm.trans q0_) 2 rfl)) (by decide))⟩, fun _ _ _ => rfl⟩
          | 3, _ => exact stepV rfl rfl (execMvB rfl ((hf 10 (by decide)).trans t10)) ⟨s, ⟨_, rfl, rfl⟩, ⟨hT.1, (fun q0_ => (hT.2.1 (by rw [up 3 9 (by decide)] at q0_; exact q0_))), (fun q0_ => (hT.2.2.1 (by rw [up 3 11 (by decide)] at q0_; exact q0_))), (hT.2.2.2.1), (hT.2.2.2.2.1), (hT.2.2.2.2.2.1), (hT.2.2.2.2.2.2.1), (fun q0_ => (hT.2.2.2.2.2.2.2.1 (by rw [up 3 9 (by decide)] at q0_; exact q0_))), (fun q0_ => absurd (hl_.symm.trans (hcl 11 _ rfl ((up 3 11 (by decide)).symm.trans q0_) 3 rfl)) (by decide))⟩, fun _ _ _ => rfl⟩
          | 4, _ => exact stepV rfl rfl (execMvB rfl ((hf 11 (by decide)).trans t11)) ⟨s, ⟨_, rfl, rfl⟩, ⟨hT.1, (fun q0_ => (hT.2.1 (by rw [up 4 9 (by decide)] at q0_; exact q0_))), (fun q0_ => (hT.2.2.1 (by rw [up 4 11 (by decide)] at q0_; exact q0_))), (hT.2.2.2.1), (hT.2.2.2.2.1), (hT.2.2.2.2.2.1), (hT.2.2.2.2.2.2.1), (fun q0_ => absurd (hl_.symm.trans (hcl 9 _ rfl ((up 4 9 (by decide)).symm.trans q0_) 4 rfl)) (by decide)), (fun q0_ => absurd (hl_.symm.trans (hcl 11 _ rfl ((up 4 11 (by decide)).symm.trans q0_) 4 rfl)) (by decide))⟩, fun _ _ _ => rfl⟩
          | 5, _ => exact stepV rfl rfl (execFx2 rfl ((hf 9 (by decide)).trans t9)) ⟨s, ⟨_, rfl, rfl⟩, ⟨hT.1, (fun q0_ => (hT.2.1 (by rw [up 5 9 (by decide)] at q0_; exact q0_))), (fun q0_ => (hT.2.2.1 (by rw [up 5 11 (by decide)] at q0_; exact q0_))), (hT.2.2.2.1), (hT.2.2.2.2.1), (hT.2.2.2.2.2.1), (hT.2.2.2.2.2.2.1), (fun q0_ => (hT.2.2.2.2.2.2.2.1 (by rw [up 5 9 (by decide)] at q0_; exact q0_))), (fun q0_ => absurd (hl_.symm.trans (hcl 11 _ rfl ((up 5 11 (by decide)).symm.trans q0_) 5 rfl)) (by decide))⟩, fun _ _ _ => rfl⟩
          | 6, _ => exact stepV rfl rfl (execLd1 rfl (Or.inr (Or.inl rfl)) (hdep _ rfl 5 rfl _ rfl _ rfl) (xC_at hT.2.2.2.2.2.1).2.2) ⟨s, ⟨_, rfl, rfl⟩, ⟨hT.1, (fun q0_ => (hT.2.1 (by rw [up 6 9 (by decide)] at q0_; exact q0_))), (fun q0_ => (hT.2.2.1 (by rw [up 6 11 (by decide)] at q0_; exact q0_))), (hT.2.2.2.1), (hT.2.2.2.2.1), (hT.2.2.2.2.2.1), (hT.2.2.2.2.2.2.1), (fun q0_ => (hT.2.2.2.2.2.2.2.1 (by rw [up 6 9 (by decide)] at q0_; exact q0_))), (fun q0_ => absurd (hl_.symm.trans (hcl 11 _ rfl ((up 6 11 (by decide)).symm.trans q0_) 6 rfl)) (by decide))⟩, fun _ _ _ => rfl⟩
          | 7, _ => exact stepV rfl rfl (execBuK rfl (hdep _ rfl 6 rfl _ rfl _ rfl)) ⟨s, ⟨_, rfl, rfl⟩, ⟨hT.1, (fun q0_ => (hT.2.1 (by rw [up 7 9 (by decide)] at q0_; exact q0_))), (fun q0_ => (hT.2.2.1 (by rw [up 7 11 (by decide)] at q0_; exact q0_))), (hT.2.2.2.1), (hT.2.2.2.2.1), (hT.2.2.2.2.2.1), (hT.2.2.2.2.2.2.1), (fun q0_ => (hT.2.2.2.2.2.2.2.1 (by rw [up 7 9 (by decide)] at q0_; exact q0_))), (fun q0_ => absurd (hl_.symm.trans (hcl 11 _ rfl ((up 7 11 (by decide)).symm.trans q0_) 7 rfl)) (by decide))⟩, fun _ _ _ => rfl⟩
          | 8, _ => exact stepV rfl rfl (execIdxDs (k := m) rfl (hdep _ rfl 0 rfl _ rfl _ rfl) (hdep _ rfl 1 rfl _ rfl _ rfl) hm) ⟨s, ⟨_, rfl, rfl⟩, ⟨hT.1, (fun q0_ => (hT.2.1 (by rw [up 8 9 (by decide)] at q0_; exact q0_))), (fun q0_ => (hT.2.2.1 (by rw [up 8 11 (by decide)] at q0_; exact q0_))), (hT.2.2.2.1), (hT.2.2.2.2.1), (hT.2.2.2.2.2.1), (hT.2.2.2.2.2.2.1), (fun q0_ => absurd (hl_.symm.trans (hcl 9 _ rfl ((up 8 9 (by decide)).symm.trans q0_) 8 rfl)) (by decide)), (fun q0_ => absurd (hl_.symm.trans (hcl 11 _ rfl ((up 8 11 (by decide)).symm.trans q0_) 8 rfl)) (by decide))⟩, fun _ _ _ => rfl⟩
          | 9, _ =>
            refine stepS rfl rfl (execStDp rfl (hdep _ rfl 8 rfl _ rfl _ rfl) (hdep _ rfl 4 rfl _ rfl _ rfl) ⟨_, rfl⟩ (cell18 (hT.2.1 hl_) (c4_at _ hm)) (frozen4 (hT.2.1 hl_))) ⟨s, ⟨_, rfl, rfl⟩, ⟨(hT.1).setCell (p := ⟨dsb, m, none⟩) hT.2.2.2.2.2.2.1.gb.1 _, (fun q0_ => absurd q0_ (by unfold updB; simp)), (fun q0_ => (keepT (hT.2.2.1 (by rw [up 9 11 (by decide)] at q0_; exact q0_)) (hT.2.1 hl_) (by decide) grC18)), (hT.2.2.2.1), (hT.2.2.2.2.1), ((keepT hT.2.2.2.2.2.1 (hT.2.1 hl_) (by decide) grC18)), ((Scs.grown hT.2.2.2.2.2.2.1 (hT.2.1 hl_) (by decide) (fun j hj => (hT.2.2.2.2.2.2.1.bof j hj).1) grC18)), (fun _q0_ => c4_st (hT.2.1 hl_) hm _), (fun q0_ => absurd (hl_.symm.trans (hcl 11 _ rfl ((up 9 11 (by decide)).symm.trans q0_) 9 rfl)) (by decide))⟩, fun i hi hli => ?_⟩
            match i, hi with
            | 0, _ => rfl
            | 1, _ => rfl
            | 2, _ => rfl
            | 3, _ => rfl
            | 4, _ => rfl
            | 5, _ => rfl
            | 6, _ => rfl
            | 7, _ => rfl
            | 8, _ => rfl
            | 9, _ => exact absurd (hl_.symm.trans hli) (by decide)
            | 10, _ => rfl
            | 11, _ => rfl
            | k_ + 12, h_ => exact absurd h_ (by simp)
          | 10, _ => exact stepV rfl rfl (execIdxBk (k := m) rfl (hdep _ rfl 2 rfl _ rfl _ rfl) (hdep _ rfl 3 rfl _ rfl _ rfl) hm) ⟨s, ⟨_, rfl, rfl⟩, ⟨hT.1, (fun q0_ => absurd (q0_.symm.trans ((up 10 9 (by decide)).trans (hl2 _ rfl 9 rfl))) (by decide)), (fun q0_ => (hT.2.2.1 (by rw [up 10 11 (by decide)] at q0_; exact q0_))), (hT.2.2.2.1), (hT.2.2.2.2.1), (hT.2.2.2.2.2.1), (hT.2.2.2.2.2.2.1), (fun q0_ => (hT.2.2.2.2.2.2.2.1 (by rw [up 10 9 (by decide)] at q0_; exact q0_))), (fun q0_ => absurd (hl_.symm.trans (hcl 11 _ rfl ((up 10 11 (by decide)).symm.trans q0_) 10 rfl)) (by decide))⟩, fun _ _ _ => rfl⟩
          | 11, _ =>
            refine stepS rfl rfl (execStBk rfl (hdep _ rfl 10 rfl _ rfl _ rfl) (hdep _ rfl 7 rfl _ rfl _ rfl) (hT.2.2.1 hl_) hm ⟨_, _, _, rfl⟩) ⟨s, ⟨_, rfl, rfl⟩, ⟨below4 hT.1 hT.2.2.2.2.2.2.1.gb.2 _, (fun q0_ => absurd (q0_.symm.trans ((up 11 9 (by decide)).trans (hl2 _ rfl 9 rfl))) (by decide)), (fun q0_ => absurd q0_ (by unfold updB; simp)), (hT.2.2.2.1), (hT.2.2.2.2.1), ((keepT hT.2.2.2.2.2.1 (hT.2.2.1 hl_) (by decide) grR18)), ((Scs.grown hT.2.2.2.2.2.2.1 (hT.2.2.1 hl_) (by decide) (fun j hj => (hT.2.2.2.2.2.2.1.bof j hj).2) grR18)), (fun q0_ => (keepT (hT.2.2.2.2.2.2.2.1 (by rw [up 11 9 (by decide)] at q0_; exact q0_)) (hT.2.2.1 hl_) (by decide) grR18)), (fun _q0_ => setRow_heap _ _ _ _ _ _ (hT.2.2.1 hl_))⟩, fun i hi hli => ?_⟩
            match i, hi with
            | 0, _ => rfl
            | 1, _ => rfl
            | 2, _ => rfl
            | 3, _ => rfl
            | 4, _ => rfl
            | 5, _ => rfl
            | 6, _ => rfl
            | 7, _ => rfl
            | 8, _ => rfl
            | 9, _ => rfl
            | 10, _ => rfl
            | 11, _ => exact absurd (hl_.symm.trans hli) (by decide)
            | k_ + 12, h_ => exact absurd h_ (by simp)
          | k_ + 12, h_ => exact absurd h_ (by simp)
        rintro l_ _ a X23 h1 h2 h3 h4 hall hT
        clear BB
        clear FD
        clear FB
        clear Fxg
        clear Fxo
        clear Fx
        clear FQn
        obtain ⟨BB, FD, FB, Fxg, Fxo, Fx, FQn, FDn, FBn⟩ := hT
        clear FD
        clear FB
        replace Fxg : (V.heap.size ≤ g9) := Fxg
        replace Fxo : (∀ j, j < 4 → ¬ F j g9) := Fxo
        replace Fx : (X23.heap[g9]? = some (.cells (xC (kd i) (wh i) (ix i)) 34)) := Fx
        replace FQn : (Scs I X23 V.heap.size dsb bkb (up F m fp) (up v m (.pointer none)) (up r m (.slice none 0 0)) z (up n m 0) (up k m 0) (up c m true)) := FQn
        replace FDn : (X23.heap[dsb]? = some (.cells (c4 (up v m (.pointer none))) 26)) := FDn (hall 9 (by decide))
        replace FBn : (X23.heap[bkb]? = some (.cells (b4 (up r m (.slice none 0 0)) (up (kI k) m (ix i)) (up c m false)) 32)) := FBn (hall 11 (by decide))
        clear hall
        replace t3 := (h3 3 (by decide)).trans t3
        replace t4 := (h3 4 (by decide)).trans t4
        replace t53 := (h3 53 (by decide)).trans t53
        replace t54 := (h3 54 (by decide)).trans t54
        replace t55 := (h3 55 (by decide)).trans t55
        replace t10 := (h3 10 (by decide)).trans t10
        replace t13 := (h3 13 (by decide)).trans t13
        replace A := (⟨h1, h2.trans A.2⟩ : a.tmps.size = 135 ∧ a.defers = [])
        clear h1 h2 h3 h4
        clear t9 t11
        clear Fx
        refine wp_seq ?_
        refine wp_seq ?_
        refine wi_ A (h7_ t3 t4 t53 t54 t55 t10 t13) (rv_ 1 (.bool true) (fun a ee => execDec (exIneq3 (p := ((2 : Nat) : Int)) (q := 0) rfl (ee _) rfl) (decide_eq_true (by decide))) (rf_ [(95, .bool true)] (h6_ t3 t4 t53 t54 t55 t10) ?_))
        rintro a A ⟨t95, -⟩ ⟨t3, t4, t53, t54, t55, t10, -⟩
        refine wp_cond_true t95 ?_
        clear t95
        refine wi_ A (h6_ t3 t4 t53 t54 t55 t10) (rv_ 2 (.agg (dC (.slice none 0 0) ((0 : Nat) : Int) true)) (fun a ee => execBuC rfl) (rv_ 3 (.pointer (some ⟨bkb, m * 3, none⟩)) (fun a ee => execIdxBk (k := m) rfl (ee _) (ee _) hm) (rs_ 4 (fun a ee => ?_))))
        refine stepS rfl rfl (execStBk rfl (ee _) (ee _) FBn hm ⟨_, _, _, rfl⟩) ⟨_, ⟨_, rfl, rfl⟩, fun X25 hX => ?_⟩
        obtain ⟨BB, FQn, FDn, FBnn⟩ : Below V.heap.size V X25 ∧ (Scs I X25 V.heap.size dsb bkb (up F m fp) (up v m (.pointer none)) (up r m (.slice none 0 0)) z (up n m 0) (up k m 0) (up c m true)) ∧ (X25.heap[dsb]? = some (.cells (c4 (up v m (.pointer none))) 26)) ∧ (X25.heap[bkb]? = some (.cells (b4 (up (up r m (.slice none 0 0)) m (.slice none 0 0)) (up (up (kI k) m (ix i)) m ((0 : Nat) : Int)) (up (up c m false) m true)) 32)) := by subst hX; exact ⟨below4 BB FQn.gb.2 _, (Scs.grown FQn FBn (by decide) (fun j hj => (FQn.bof j hj).2) grR18), (keepT FDn FBn (by decide) grR18), setRow_heap _ _ _ _ _ _ FBn⟩
        clear FBn hX ee a
        refine rf_ [] (h5_ t3 t4 t53 t54 t55) ?_
        rintro a A - ⟨t3, t4, t53, t54, t55, -⟩
        refine wp_exit ?_
        first | with_reducible refine exit_in ?_ | with_reducible refine exit_then (exit_in ?_) | with_reducible refine exit_then (exit_then (exit_in ?_)) | refine exit_in ?_ | refine exit_then (exit_in ?_) | refine exit_then (exit_then (exit_in ?_))
        rw [b4_cg (r' := (up r m (.slice none 0 0))) (k' := kI (up k m 0)) (c' := (up c m true)) (fun j _ => by by_cases e : j = m; rw [e, up_at, up_at]; rw [up_ne _ _ e]) (fun j _ => by by_cases e : j = m; rw [e, up_at]; unfold kI; rw [up_at]; rw [up_ne _ _ e, up_ne _ _ e]; unfold kI; rw [up_ne _ _ e]) (fun j _ => by by_cases e : j = m; rw [e, up_at, up_at]; rw [up_ne _ _ e, up_ne _ _ e, up_ne _ _ e])] at FBnn
        have FD := FDn
        clear FDn
        have FB := FBnn
        clear FBnn
        have FQ := FQn
        clear FQn
        refine wi_ A (h5_ t3 t4 t53 t54 t55) (rv_ 0 (.int .i64 ((i + 1 : Nat) : Int)) (fun a ee => execAd8 (p := i) (q := 1) rfl (ee _) rfl (by omega)) (rf_ [(55, .int .i64 ((i + 1 : Nat) : Int))] (h4_ t3 t4 t53 t54) ?_))
        rintro a A ⟨t55, -⟩ ⟨t3, t4, t53, t54, -⟩
        exact ⟨⟨i + 1, (up F m fp), (up v m (.pointer none)), (up r m (.slice none 0 0)), z, (up n m 0), (up k m 0), (up c m true), lti, A, t3, t4, t53, t54, t55, BB, FD, FB, FQ⟩, by show l - (intOf (a.eval (.tmp 55))).toNat < l - (intOf (Act.eval _ (.tmp 55))).toNat; rw [t55, esi]; show l - (i + 1) < l - i; omega⟩
    refine wi_ A (h7_ t3 t4 t53 t54 t55 t9 t10) (rv_ 0 (.pointer (some ⟨g9, 0, none⟩)) (fun a ee => execFx0 rfl (ee _)) (rv_ 1 (.int .i64 (kd i)) (fun a ee => execLd1 rfl (Or.inr (Or.inl rfl)) (ee _) (xC_at Fx).1) (rv_ 2 (.bool false) (fun a ee => execDec (exIeql3 (p := (kd i)) (q := 0) rfl (ee _) rfl) (decide_eq_false hk0)) (rf_ [(64, .bool false)] (h7_ t3 t4 t53 t54 t55 t9 t10) ?_))))
    rintro a A ⟨t64, -⟩ ⟨t3, t4, t53, t54, t55, t9, t10, -⟩
    refine wp_cond_false t64 ?_
    refine wp_skip ?_
    clear t64
    have FL : ∀ j, j < 4 → ∀ q, F j q → q < X16.heap.size := fun j hj q h => I.lt (FQ.dr j hj) q h
    have Feq : F = F := rfl
    refine wp_seq ?_
    refine wp_region_stB (σ := (Nat → Nat → Prop) × Value × (Nat → Int) × Nat × Bool × Nat) 135 [(0, 101), (1, 102), (2, 103), (3, 104), (4, 105), (5, 106), (6, 107), (7, 108), (8, 109), (9, 110), (10, 100), (11, 111), (12, 112), (13, 14), (15, 15)] (fun l_ s X => Below V.heap.size V X ∧ ((X.heap[dsb]? = some (.cells (c4 v) 26))) ∧ ((X.heap[bkb]? = some (.cells (b4 r (kI k) c) 32))) ∧ (l_ 9 = false → (Scs I X V.heap.size dsb bkb F v r z n k c)) ∧ ((V.heap.size ≤ g9)) ∧ ((∀ j, j < 4 → ¬ F j g9)) ∧ (l_ 9 = false → (X.heap[g9]? = some (.cells (xC (kd i) (wh i) (ix i)) 34))) ∧ ((∀ j, j < 4 → ∀ q, s.1 j q → q < X.heap.size)) ∧ (l_ 9 = false → (s.1 = F)) ∧ (l_ 9 = true → (Scs I X V.heap.size dsb bkb s.1 v (up r m s.2.1) (up z m s.2.2.1) (up n m s.2.2.2.1) k (up c m s.2.2.2.2.1))) ∧ (l_ 9 = true → (∃ g n q, s.2.1 = Value.slice g n q)) ∧ (l_ 13 = true → l_ 14 = false → (G14 X s.1 s.2.2.2.2.2 (.slice none 0 0) 0 false)) ∧ (l_ 13 = true → (bkb ≠ s.2.2.2.2.2)) ∧ (l_ 13 = true → (V.heap.size ≤ s.2.2.2.2.2)) ∧ (l_ 14 = true → (G14 X s.1 s.2.2.2.2.2 s.2.1 ((k m : Nat) : Int) s.2.2.2.2.1))) (fun s => fun i_ => match i_ with | 0 => .slice (some ⟨dsb, 0, none⟩) 4 4 | 1 => .int .i64 ((m : Nat) : Int) | 2 => .pointer (some ⟨dsb, m, none⟩) | 3 => (v m) | 4 => .slice (some ⟨bkb, 0, none⟩) 4 4 | 5 => .int .i64 ((m : Nat) : Int) | 6 => .pointer (some ⟨bkb, m * 3, none⟩) | 7 => .agg (dC (r m) ((k m : Nat) : Int) (c m)) | 8 => .agg (xC (kd i) (wh i) (ix i)) | 9 => .tuple #[.agg (dC s.2.1 ((k m : Nat) : Int) s.2.2.2.2.1), .bool true] | 10 => .tuple #[.agg (dC s.2.1 ((k m : Nat) : Int) s.2.2.2.2.1), .bool true] | 11 => .agg (dC s.2.1 ((k m : Nat) : Int) s.2.2.2.2.1) | 12 => .bool true | 13 => .pointer (some ⟨s.2.2.2.2.2, 0, none⟩) | 14 => undef | 15 => .bool true | _ => undef) (F, undef, fun _ => 0, 0, false, 0) (by kernel_rfl) (by kernel_rfl) A.1 (by kernel_rfl) (by decide) (by decide) ⟨(BB.drew), ((on9 FD (Below.refl _ _).drew)), ((on9 FB (Below.refl _ _).drew)), (fun _ => (FQ.on (Below.refl _ _).drew)), (Fxg), (Fxo), (fun _ => (on9 Fx (Below.refl _ _).drew)), ((fl_on FL (Below.refl _ _).drew)), (fun _ => (Feq)), (fun q0_ => by cases q0_), (fun q0_ => by cases q0_), (fun q0_ q1_ => by cases q0_), (fun q0_ => by cases q0_), (fun q0_ => by cases q0_), (fun q0_ => by cases q0_)⟩ ?_ ?_
    · intro i_ hi_ l_ s a X hl_ hf hdep hl2 hcl hno hT
      have up : ∀ j x, x ≠ j → updB l_ j x = l_ x := fun j x hj => by unfold updB; simp [hj]
      match i_, hi_ with
      | 0, _ => exact stepV rfl rfl (execMvB rfl ((hf 3 (by decide)).trans t3)) ⟨s, ⟨_, rfl, rfl⟩, ⟨hT.1, (hT.2.1), (hT.2.2.1), (fun q0_ => (hT.2.2.2.1 (by rw [up 0 9 (by decide)] at q0_; exact q0_))), (hT.2.2.2.2.1), (hT.2.2.2.2.2.1), (fun q0_ => (hT.2.2.2.2.2.2.1 (by rw [up 0 9 (by decide)] at q0_; exact q0_))), (hT.2.2.2.2.2.2.2.1), (fun q0_ => (hT.2.2.2.2.2.2.2.2.1 (by rw [up 0 9 (by decide)] at q0_; exact q0_))), (fun q0_ => absurd (hl_.symm.trans (hcl 2 _ rfl (hcl 3 _ rfl (hcl 9 _ rfl ((up 0 9 (by decide)).symm.trans q0_) 3 rfl) 2 rfl) 0 rfl)) (by decide)), (fun q0_ => absurd (hl_.symm.trans (hcl 2 _ rfl (hcl 3 _ rfl (hcl 9 _ rfl ((up 0 9 (by decide)).symm.trans q0_) 3 rfl) 2 rfl) 0 rfl)) (by decide)), (fun q0_ q1_ => (hT.2.2.2.2.2.2.2.2.2.2.2.1 (by rw [up 0 13 (by decide)] at q0_; exact q0_) (by rw [up 0 14 (by decide)] at q1_; exact q1_))), (fun q0_ => (hT.2.2.2.2.2.2.2.2.2.2.2.2.1 (by rw [up 0 13 (by decide)] at q0_; exact q0_))), (fun q0_ => (hT.2.2.2.2.2.2.2.2.2.2.2.2.2.1 (by rw [up 0 13 (by decide)] at q0_; exact q0_))), (fun q0_ => absurd (hl_.symm.trans (hcl 14 _ rfl ((up 0 14 (by decide)).symm.trans q0_) 0 rfl)) (by decide))⟩, fun _ _ _ => rfl⟩
      | 1, _ => exact stepV rfl rfl (execMvB rfl ((hf 10 (by decide)).trans t10)) ⟨s, ⟨_, rfl, rfl⟩, ⟨hT.1, (hT.2.1), (hT.2.2.1), (fun q0_ => (hT.2.2.2.1 (by rw [up 1 9 (by decide)] at q0_; exact q0_))), (hT.2.2.2.2.1), (hT.2.2.2.2.2.1), (fun q0_ => (hT.2.2.2.2.2.2.1 (by rw [up 1 9 (by decide)] at q0_; exact q0_))), (hT.2.2.2.2.2.2.2.1), (fun q0_ => (hT.2.2.2.2.2.2.2.2.1 (by rw [up 1 9 (by decide)] at q0_; exact q0_))), (fun q0_ => absurd (hl_.symm.trans (hcl 2 _ rfl (hcl 3 _ rfl (hcl 9 _ rfl ((up 1 9 (by decide)).symm.trans q0_) 3 rfl) 2 rfl) 1 rfl)) (by decide)), (fun q0_ => absurd (hl_.symm.trans (hcl 2 _ rfl (hcl 3 _ rfl (hcl 9 _ rfl ((up 1 9 (by decide)).symm.trans q0_) 3 rfl) 2 rfl) 1 rfl)) (by decide)), (fun q0_ q1_ => (hT.2.2.2.2.2.2.2.2.2.2.2.1 (by rw [up 1 13 (by decide)] at q0_; exact q0_) (by rw [up 1 14 (by decide)] at q1_; exact q1_))), (fun q0_ => (hT.2.2.2.2.2.2.2.2.2.2.2.2.1 (by rw [up 1 13 (by decide)] at q0_; exact q0_))), (fun q0_ => (hT.2.2.2.2.2.2.2.2.2.2.2.2.2.1 (by rw [up 1 13 (by decide)] at q0_; exact q0_))), (fun q0_ => absurd (hl_.symm.trans (hcl 14 _ rfl ((up 1 14 (by decide)).symm.trans q0_) 1 rfl)) (by decide))⟩, fun _ _ _ => rfl⟩
      | 2, _ => exact stepV rfl rfl (execIdxDs (k := m) rfl (hdep _ rfl 0 rfl _ rfl _ rfl) (hdep _ rfl 1 rfl _ rfl _ rfl) hm) ⟨s, ⟨_, rfl, rfl⟩, ⟨hT.1, (hT.2.1), (hT.2.2.1), (fun q0_ => (hT.2.2.2.1 (by rw [up 2 9 (by decide)] at q0_; exact q0_))), (hT.2.2.2.2.1), (hT.2.2.2.2.2.1), (fun q0_ => (hT.2.2.2.2.2.2.1 (by rw [up 2 9 (by decide)] at q0_; exact q0_))), (hT.2.2.2.2.2.2.2.1), (fun q0_ => (hT.2.2.2.2.2.2.2.2.1 (by rw [up 2 9 (by decide)] at q0_; exact q0_))), (fun q0_ => absurd (hl_.symm.trans (hcl 3 _ rfl (hcl 9 _ rfl ((up 2 9 (by decide)).symm.trans q0_) 3 rfl) 2 rfl)) (by decide)), (fun q0_ => absurd (hl_.symm.trans (hcl 3 _ rfl (hcl 9 _ rfl ((up 2 9 (by decide)).symm.trans q0_) 3 rfl) 2 rfl)) (by decide)), (fun q0_ q1_ => (hT.2.2.2.2.2.2.2.2.2.2.2.1 (by rw [up 2 13 (by decide)] at q0_; exact q0_) (by rw [up 2 14 (by decide)] at q1_; exact q1_))), (fun q0_ => (hT.2.2.2.2.2.2.2.2.2.2.2.2.1 (by rw [up 2 13 (by decide)] at q0_; exact q0_))), (fun q0_ => (hT.2.2.2.2.2.2.2.2.2.2.2.2.2.1 (by rw [up 2 13 (by decide)] at q0_; exact q0_))), (fun q0_ => absurd (hl_.symm.trans (hcl 14 _ rfl ((up 2 14 (by decide)).symm.trans q0_) 2 rfl)) (by decide))⟩, fun _ _ _ => rfl⟩
      | 3, _ => exact stepV rfl rfl (execLdDp rfl (hdep _ rfl 2 rfl _ rfl _ rfl) (cell18 hT.2.1 (c4_at _ hm))) ⟨s, ⟨_, rfl, rfl⟩, ⟨hT.1, (hT.2.1), (hT.2.2.1), (fun q0_ => (hT.2.2.2.1 (by rw [up 3 9 (by decide)] at q0_; exact q0_))), (hT.2.2.2.2.1), (hT.2.2.2.2.2.1), (fun q0_ => (hT.2.2.2.2.2.2.1 (by rw [up 3 9 (by decide)] at q0_; exact q0_))), (hT.2.2.2.2.2.2.2.1), (fun q0_ => (hT.2.2.2.2.2.2.2.2.1 (by rw [up 3 9 (by decide)] at q0_; exact q0_))), (fun q0_ => absurd (hl_.symm.trans (hcl 9 _ rfl ((up 3 9 (by decide)).symm.trans q0_) 3 rfl)) (by decide)), (fun q0_ => absurd (hl_.symm.trans (hcl 9 _ rfl ((up 3 9 (by decide)).symm.trans q0_) 3 rfl)) (by decide)), (fun q0_ q1_ => (hT.2.2.2.2.2.2.2.2.2.2.2.1 (by rw [up 3 13 (by decide)] at q0_; exact q0_) (by rw [up 3 14 (by decide)] at q1_; exact q1_))), (fun q0_ => (hT.2.2.2.2.2.2.2.2.2.2.2.2.1 (by rw [up 3 13 (by decide)] at q0_; exact q0_))), (fun q0_ => (hT.2.2.2.2.2.2.2.2.2.2.2.2.2.1 (by rw [up 3 13 (by decide)] at q0_; exact q0_))), (fun q0_ => absurd (hl_.symm.trans (hcl 14 _ rfl ((up 3 14 (by decide)).symm.trans q0_) 3 rfl)) (by decide))⟩, fun _ _ _ => rfl⟩
      | 4, _ => exact stepV rfl rfl (execMvB rfl ((hf 4 (by decide)).trans t4)) ⟨s, ⟨_, rfl, rfl⟩, ⟨hT.1, (hT.2.1), (hT.2.2.1), (fun q0_ => (hT.2.2.2.1 (by rw [up 4 9 (by decide)] at q0_; exact q0_))), (hT.2.2.2.2.1), (hT.2.2.2.2.2.1), (fun q0_ => (hT.2.2.2.2.2.2.1 (by rw [up 4 9 (by decide)] at q0_; exact q0_))), (hT.2.2.2.2.2.2.2.1), (fun q0_ => (hT.2.2.2.2.2.2.2.2.1 (by rw [up 4 9 (by decide)] at q0_; exact q0_))), (fun q0_ => absurd (hl_.symm.trans (hcl 6 _ rfl (hcl 7 _ rfl (hcl 9 _ rfl ((up 4 9 (by decide)).symm.trans q0_) 7 rfl) 6 rfl) 4 rfl)) (by decide)), (fun q0_ => absurd (hl_.symm.trans (hcl 6 _ rfl (hcl 7 _ rfl (hcl 9 _ rfl ((up 4 9 (by decide)).symm.trans q0_) 7 rfl) 6 rfl) 4 rfl)) (by decide)), (fun q0_ q1_ => (hT.2.2.2.2.2.2.2.2.2.2.2.1 (by rw [up 4 13 (by decide)] at q0_; exact q0_) (by rw [up 4 14 (by decide)] at q1_; exact q1_))), (fun q0_ => (hT.2.2.2.2.2.2.2.2.2.2.2.2.1 (by rw [up 4 13 (by decide)] at q0_; exact q0_))), (fun q0_ => (hT.2.2.2.2.2.2.2.2.2.2.2.2.2.1 (by rw [up 4 13 (by decide)] at q0_; exact q0_))), (fun q0_ => absurd (hl_.symm.trans (hcl 14 _ rfl ((up 4 14 (by decide)).symm.trans q0_) 4 rfl)) (by decide))⟩, fun _ _ _ => rfl⟩
      | 5, _ => exact stepV rfl rfl (execMvB rfl ((hf 10 (by decide)).trans t10)) ⟨s, ⟨_, rfl, rfl⟩, ⟨hT.1, (hT.2.1), (hT.2.2.1), (fun q0_ => (hT.2.2.2.1 (by rw [up 5 9 (by decide)] at q0_; exact q0_))), (hT.2.2.2.2.1), (hT.2.2.2.2.2.1), (fun q0_ => (hT.2.2.2.2.2.2.1 (by rw [up 5 9 (by decide)] at q0_; exact q0_))), (hT.2.2.2.2.2.2.2.1), (fun q0_ => (hT.2.2.2.2.2.2.2.2.1 (by rw [up 5 9 (by decide)] at q0_; exact q0_))), (fun q0_ => absurd (hl_.symm.trans (hcl 6 _ rfl (hcl 7 _ rfl (hcl 9 _ rfl ((up 5 9 (by decide)).symm.trans q0_) 7 rfl) 6 rfl) 5 rfl)) (by decide)), (fun q0_ => absurd (hl_.symm.trans (hcl 6 _ rfl (hcl 7 _ rfl (hcl 9 _ rfl ((up 5 9 (by decide)).symm.trans q0_) 7 rfl) 6 rfl) 5 rfl)) (by decide)), (fun q0_ q1_ => (hT.2.2.2.2.2.2.2.2.2.2.2.1 (by rw [up 5 13 (by decide)] at q0_; exact q0_) (by rw [up 5 14 (by decide)] at q1_; exact q1_))), (fun q0_ => (hT.2.2.2.2.2.2.2.2.2.2.2.2.1 (by rw [up 5 13 (by decide)] at q0_; exact q0_))), (fun q0_ => (hT.2.2.2.2.2.2.2.2.2.2.2.2.2.1 (by rw [up 5 13 (by decide)] at q0_; exact q0_))), (fun q0_ => absurd (hl_.symm.trans (hcl 14 _ rfl ((up 5 14 (by decide)).symm.trans q0_) 5 rfl)) (by decide))⟩, fun _ _ _ => rfl⟩
      | 6, _ => exact stepV rfl rfl (execIdxBk (k := m) rfl (hdep _ rfl 4 rfl _ rfl _ rfl) (hdep _ rfl 5 rfl _ rfl _ rfl) hm) ⟨s, ⟨_, rfl, rfl⟩, ⟨hT.1, (hT.2.1), (hT.2.2.1), (fun q0_ => (hT.2.2.2.1 (by rw [up 6 9 (by decide)] at q0_; exact q0_))), (hT.2.2.2.2.1), (hT.2.2.2.2.2.1), (fun q0_ => (hT.2.2.2.2.2.2.1 (by rw [up 6 9 (by decide)] at q0_; exact q0_))), (hT.2.2.2.2.2.2.2.1), (fun q0_ => (hT.2.2.2.2.2.2.2.2.1 (by rw [up 6 9 (by decide)] at q0_; exact q0_))), (fun q0_ => absurd (hl_.symm.trans (hcl 7 _ rfl (hcl 9 _ rfl ((up 6 9 (by decide)).symm.trans q0_) 7 rfl) 6 rfl)) (by decide)), (fun q0_ => absurd (hl_.symm.trans (hcl 7 _ rfl (hcl 9 _ rfl ((up 6 9 (by decide)).symm.trans q0_) 7 rfl) 6 rfl)) (by decide)), (fun q0_ q1_ => (hT.2.2.2.2.2.2.2.2.2.2.2.1 (by rw [up 6 13 (by decide)] at q0_; exact q0_) (by rw [up 6 14 (by decide)] at q1_; exact q1_))), (fun q0_ => (hT.2.2.2.2.2.2.2.2.2.2.2.2.1 (by rw [up 6 13 (by decide)] at q0_; exact q0_))), (fun q0_ => (hT.2.2.2.2.2.2.2.2.2.2.2.2.2.1 (by rw [up 6 13 (by decide)] at q0_; exact q0_))), (fun q0_ => absurd (hl_.symm.trans (hcl 14 _ rfl ((up 6 14 (by decide)).symm.trans q0_) 6 rfl)) (by decide))⟩, fun _ _ _ => rfl⟩
      | 7, _ => exact stepV rfl rfl (execLdBk rfl (hdep _ rfl 6 rfl _ rfl _ rfl) hT.2.2.1 hm) ⟨s, ⟨_, rfl, rfl⟩, ⟨hT.1, (hT.2.1), (hT.2.2.1), (fun q0_ => (hT.2.2.2.1 (by rw [up 7 9 (by decide)] at q0_; exact q0_))), (hT.2.2.2.2.1), (hT.2.2.2.2.2.1), (fun q0_ => (hT.2.2.2.2.2.2.1 (by rw [up 7 9 (by decide)] at q0_; exact q0_))), (hT.2.2.2.2.2.2.2.1), (fun q0_ => (hT.2.2.2.2.2.2.2.2.1 (by rw [up 7 9 (by decide)] at q0_; exact q0_))), (fun q0_ => absurd (hl_.symm.trans (hcl 9 _ rfl ((up 7 9 (by decide)).symm.trans q0_) 7 rfl)) (by decide)), (fun q0_ => absurd (hl_.symm.trans (hcl 9 _ rfl ((up 7 9 (by decide)).symm.trans q0_) 7 rfl)) (by decide)), (fun q0_ q1_ => (hT.2.2.2.2.2.2.2.2.2.2.2.1 (by rw [up 7 13 (by decide)] at q0_; exact q0_) (by rw [up 7 14 (by decide)] at q1_; exact q1_))), (fun q0_ => (hT.2.2.2.2.2.2.2.2.2.2.2.2.1 (by rw [up 7 13 (by decide)] at q0_; exact q0_))), (fun q0_ => (hT.2.2.2.2.2.2.2.2.2.2.2.2.2.1 (by rw [up 7 13 (by decide)] at q0_; exact q0_))), (fun q0_ => absurd (hl_.symm.trans (hcl 14 _ rfl ((up 7 14 (by decide)).symm.trans q0_) 7 rfl)) (by decide))⟩, fun _ _ _ => rfl⟩
      | 8, _ => exact stepV rfl rfl (execLdXr rfl ((hf 9 (by decide)).trans t9) (xC_range (hT.2.2.2.2.2.2.1 (by cases hq_ : l_ 9 with | false => rfl | true => exact absurd (hl_.symm.trans (hcl 9 _ rfl hq_ 8 rfl)) (by decide))))) ⟨s, ⟨_, rfl, rfl⟩, ⟨hT.1, (hT.2.1), (hT.2.2.1), (fun q0_ => (hT.2.2.2.1 (by rw [up 8 9 (by decide)] at q0_; exact q0_))), (hT.2.2.2.2.1), (hT.2.2.2.2.2.1), (fun q0_ => (hT.2.2.2.2.2.2.1 (by rw [up 8 9 (by decide)] at q0_; exact q0_))), (hT.2.2.2.2.2.2.2.1), (fun q0_ => (hT.2.2.2.2.2.2.2.2.1 (by rw [up 8 9 (by decide)] at q0_; exact q0_))), (fun q0_ => absurd (hl_.symm.trans (hcl 9 _ rfl ((up 8 9 (by decide)).symm.trans q0_) 8 rfl)) (by decide)), (fun q0_ => absurd (hl_.symm.trans (hcl 9 _ rfl ((up 8 9 (by decide)).symm.trans q0_) 8 rfl)) (by decide)), (fun q0_ q1_ => (hT.2.2.2.2.2.2.2.2.2.2.2.1 (by rw [up 8 13 (by decide)] at q0_; exact q0_) (by rw [up 8 14 (by decide)] at q1_; exact q1_))), (fun q0_ => (hT.2.2.2.2.2.2.2.2.2.2.2.2.1 (by rw [up 8 13 (by decide)] at q0_; exact q0_))), (fun q0_ => (hT.2.2.2.2.2.2.2.2.2.2.2.2.2.1 (by rw [up 8 13 (by decide)] at q0_; exact q0_))), (fun q0_ => absurd (hl_.symm.trans (hcl 14 _ rfl ((up 8 14 (by decide)).symm.trans q0_) 8 rfl)) (by decide))⟩, fun _ _ _ => rfl⟩
      | 9, _ =>
        refine stepC rfl rfl (execCall3 Try.func9 (by kernel_rfl) (by kernel_rfl) rfl (hdep _ rfl 3 rfl _ rfl _ rfl) (hdep _ rfl 7 rfl _ rfl _ rfl) (hdep _ rfl 8 rfl _ rfl _ rfl)) (played_any I (v m) (r m) (F m) (n m) (k m) (z m) (c m) (kd i) (wh i) (ix i) V X hT.1 ((hT.2.2.2.1 hl_).dr m hm) ((hT.2.2.2.1 hl_).row m hm) (fun q => (hT.2.2.2.1 hl_).ge m q hm) (fun g => (hT.2.2.2.1 hl_).rof m m g hm hm) ((hT.2.2.2.1 hl_).num m hm) hnm.2) fun e w' hh => ?_
        obtain ⟨⟨F_, r_, z_, n_, c_, he, ⟨hkR, hown⟩, hnum, hoff, hnew, hsub, hsv⟩, hb⟩ := hh
        refine ⟨_, he, (Win.up F m F_, r_, z_, n_, c_, s.2.2.2.2.2), ⟨_, rfl, rfl⟩, ⟨hb, ((bk_saved hT.2.1 hsv ((hT.2.2.2.1 hl_).bof m hm).1)), ((bk_saved hT.2.2.1 hsv ((hT.2.2.2.1 hl_).bof m hm).2)), (fun q0_ => absurd q0_ (by unfold updB; simp)), (hT.2.2.2.2.1), (hT.2.2.2.2.2.1), (fun q0_ => absurd q0_ (by unfold updB; simp)), (fun j hj q h => I.lt (((hT.2.2.2.1 hl_).play hm hkR hown hnum hoff hnew hsub hsv (hT.1).size).dr j hj) q h), (fun q0_ => absurd q0_ (by unfold updB; simp)), (fun _q0_ => (hT.2.2.2.1 hl_).play hm hkR hown hnum hoff hnew hsub hsv (hT.1).size), (fun _q0_ => own_slq hown), (fun q0_ q1_ => (G14.play (hT.2.2.2.2.2.2.2.2.2.2.2.1 (by rw [up 9 13 (by decide)] at q0_; exact q0_) (by rw [up 9 14 (by decide)] at q1_; exact q1_)) (hT.2.2.2.2.2.2.2.2.1 hl_) hm hsub hsv)), (fun q0_ => (hT.2.2.2.2.2.2.2.2.2.2.2.2.1 (by rw [up 9 13 (by decide)] at q0_; exact q0_))), (fun q0_ => (hT.2.2.2.2.2.2.2.2.2.2.2.2.2.1 (by rw [up 9 13 (by decide)] at q0_; exact q0_))), (fun q0_ => absurd (hl_.symm.trans (hcl 14 _ rfl ((up 9 14 (by decide)).symm.trans q0_) 9 rfl)) (by decide))⟩, fun i hi hli => ?_⟩
        match i, hi with
        | 0, _ => rfl
        | 1, _ => rfl
        | 2, _ => rfl
        | 3, _ => rfl
        | 4, _ => rfl
        | 5, _ => rfl
        | 6, _ => rfl
        | 7, _ => rfl
        | 8, _ => rfl
        | 9, _ => exact absurd (hl_.symm.trans hli) (by decide)
        | 10, _ => exact absurd (hl_.symm.trans (hcl 10 _ rfl hli 9 rfl)) (by decide)
        | 11, _ => exact absurd (hl_.symm.trans (hcl 10 _ rfl (hcl 11 _ rfl hli 10 rfl) 9 rfl)) (by decide)
        | 12, _ => rfl
        | 13, _ => rfl
        | 14, _ => rfl
        | 15, _ => rfl
        | k_ + 16, h_ => exact absurd h_ (by simp)
      | 10, _ => exact stepV rfl rfl (execMvB rfl (hdep _ rfl 9 rfl _ rfl _ rfl)) ⟨s, ⟨_, rfl, rfl⟩, ⟨hT.1, (hT.2.1), (hT.2.2.1), (fun q0_ => absurd (q0_.symm.trans ((up 10 9 (by decide)).trans (hl2 _ rfl 9 rfl))) (by decide)), (hT.2.2.2.2.1), (hT.2.2.2.2.2.1), (fun q0_ => absurd (q0_.symm.trans ((up 10 9 (by decide)).trans (hl2 _ rfl 9 rfl))) (by decide)), (hT.2.2.2.2.2.2.2.1), (fun q0_ => absurd (q0_.symm.trans ((up 10 9 (by decide)).trans (hl2 _ rfl 9 rfl))) (by decide)), (fun q0_ => (hT.2.2.2.2.2.2.2.2.2.1 (by rw [up 10 9 (by decide)] at q0_; exact q0_))), (fun q0_ => (hT.2.2.2.2.2.2.2.2.2.2.1 (by rw [up 10 9 (by decide)] at q0_; exact q0_))), (fun q0_ q1_ => (hT.2.2.2.2.2.2.2.2.2.2.2.1 (by rw [up 10 13 (by decide)] at q0_; exact q0_) (by rw [up 10 14 (by decide)] at q1_; exact q1_))), (fun q0_ => (hT.2.2.2.2.2.2.2.2.2.2.2.2.1 (by rw [up 10 13 (by decide)] at q0_; exact q0_))), (fun q0_ => (hT.2.2.2.2.2.2.2.2.2.2.2.2.2.1 (by rw [up 10 13 (by decide)] at q0_; exact q0_))), (fun q0_ => absurd (hl_.symm.trans (hcl 14 _ rfl ((up 10 14 (by decide)).symm.trans q0_) 10 rfl)) (by decide))⟩, fun _ _ _ => rfl⟩
      | 11, _ => exact stepV rfl rfl (execExtT rfl (hdep _ rfl 10 rfl _ rfl _ rfl) rfl) ⟨s, ⟨_, rfl, rfl⟩, ⟨hT.1, (hT.2.1), (hT.2.2.1), (fun q0_ => absurd (q0_.symm.trans ((up 11 9 (by decide)).trans (hcl 10 _ rfl (hl2 _ rfl 10 rfl) 9 rfl))) (by decide)), (hT.2.2.2.2.1), (hT.2.2.2.2.2.1), (fun q0_ => absurd (q0_.symm.trans ((up 11 9 (by decide)).trans (hcl 10 _ rfl (hl2 _ rfl 10 rfl) 9 rfl))) (by decide)), (hT.2.2.2.2.2.2.2.1), (fun q0_ => absurd (q0_.symm.trans ((up 11 9 (by decide)).trans (hcl 10 _ rfl (hl2 _ rfl 10 rfl) 9 rfl))) (by decide)), (fun q0_ => (hT.2.2.2.2.2.2.2.2.2.1 (by rw [up 11 9 (by decide)] at q0_; exact q0_))), (fun q0_ => (hT.2.2.2.2.2.2.2.2.2.2.1 (by rw [up 11 9 (by decide)] at q0_; exact q0_))), (fun q0_ q1_ => (hT.2.2.2.2.2.2.2.2.2.2.2.1 (by rw [up 11 13 (by decide)] at q0_; exact q0_) (by rw [up 11 14 (by decide)] at q1_; exact q1_))), (fun q0_ => (hT.2.2.2.2.2.2.2.2.2.2.2.2.1 (by rw [up 11 13 (by decide)] at q0_; exact q0_))), (fun q0_ => (hT.2.2.2.2.2.2.2.2.2.2.2.2.2.1 (by rw [up 11 13 (by decide)] at q0_; exact q0_))), (fun q0_ => absurd (hl_.symm.trans (hcl 14 _ rfl ((up 11 14 (by decide)).symm.trans q0_) 11 rfl)) (by decide))⟩, fun _ _ _ => rfl⟩
      | 12, _ => exact stepV rfl rfl (execExtT rfl (hdep _ rfl 10 rfl _ rfl _ rfl) rfl) ⟨s, ⟨_, rfl, rfl⟩, ⟨hT.1, (hT.2.1), (hT.2.2.1), (fun q0_ => absurd (q0_.symm.trans ((up 12 9 (by decide)).trans (hcl 10 _ rfl (hl2 _ rfl 10 rfl) 9 rfl))) (by decide)), (hT.2.2.2.2.1), (hT.2.2.2.2.2.1), (fun q0_ => absurd (q0_.symm.trans ((up 12 9 (by decide)).trans (hcl 10 _ rfl (hl2 _ rfl 10 rfl) 9 rfl))) (by decide)), (hT.2.2.2.2.2.2.2.1), (fun q0_ => absurd (q0_.symm.trans ((up 12 9 (by decide)).trans (hcl 10 _ rfl (hl2 _ rfl 10 rfl) 9 rfl))) (by decide)), (fun q0_ => (hT.2.2.2.2.2.2.2.2.2.1 (by rw [up 12 9 (by decide)] at q0_; exact q0_))), (fun q0_ => (hT.2.2.2.2.2.2.2.2.2.2.1 (by rw [up 12 9 (by decide)] at q0_; exact q0_))), (fun q0_ q1_ => (hT.2.2.2.2.2.2.2.2.2.2.2.1 (by rw [up 12 13 (by decide)] at q0_; exact q0_) (by rw [up 12 14 (by decide)] at q1_; exact q1_))), (fun q0_ => (hT.2.2.2.2.2.2.2.2.2.2.2.2.1 (by rw [up 12 13 (by decide)] at q0_; exact q0_))), (fun q0_ => (hT.2.2.2.2.2.2.2.2.2.2.2.2.2.1 (by rw [up 12 13 (by decide)] at q0_; exact q0_))), (fun q0_ => (hT.2.2.2.2.2.2.2.2.2.2.2.2.2.2 (by rw [up 12 14 (by decide)] at q0_; exact q0_)))⟩, fun _ _ _ => rfl⟩
      | 13, _ =>
        refine stepV rfl rfl (execAlD rfl) ⟨(s.1, s.2.1, s.2.2.1, s.2.2.2.1, s.2.2.2.2.1, X.heap.size), ⟨_, rfl, rfl⟩, ⟨hT.1.trans (((belNew X _)).mono hT.1.size), ((on9 hT.2.1 (belNew X _))), ((on9 hT.2.2.1 (belNew X _))), (fun q0_ => ((hT.2.2.2.1 (by rw [up 13 9 (by decide)] at q0_; exact q0_)).on (belNew X _))), (hT.2.2.2.2.1), (hT.2.2.2.2.2.1), (fun q0_ => (on9 (hT.2.2.2.2.2.2.1 (by rw [up 13 9 (by decide)] at q0_; exact q0_)) (belNew X _))), ((fl_on hT.2.2.2.2.2.2.2.1 (belNew X _))), (fun q0_ => ((hT.2.2.2.2.2.2.2.2.1 (by rw [up 13 9 (by decide)] at q0_; exact q0_)))), (fun q0_ => ((hT.2.2.2.2.2.2.2.2.2.1 (by rw [up 13 9 (by decide)] at q0_; exact q0_)).on (belNew X _))), (fun q0_ => (hT.2.2.2.2.2.2.2.2.2.2.1 (by rw [up 13 9 (by decide)] at q0_; exact q0_))), (fun _q0_ _q1_ => ⟨heapNew X _, fun j hj h => Nat.lt_irrefl _ (hT.2.2.2.2.2.2.2.1 j hj _ h)⟩), (fun _q0_ => Nat.ne_of_lt (Array.getElem?_eq_some_iff.1 hT.2.2.1).1), (fun _q0_ => (hT.1).size), (fun q0_ => absurd (hl_.symm.trans (hcl 14 _ rfl ((up 13 14 (by decide)).symm.trans q0_) 13 rfl)) (by decide))⟩, fun i hi hli => ?_⟩
        match i, hi with
        | 0, _ => rfl
        | 1, _ => rfl
        | 2, _ => rfl
        | 3, _ => rfl
        | 4, _ => rfl
        | 5, _ => rfl
        | 6, _ => rfl
        | 7, _ => rfl
        | 8, _ => rfl
        | 9, _ => rfl
        | 10, _ => rfl
        | 11, _ => rfl
        | 12, _ => rfl
        | 13, _ => exact absurd (hl_.symm.trans hli) (by decide)
        | 14, _ => rfl
        | 15, _ => rfl
        | k_ + 16, h_ => exact absurd h_ (by simp)
      | 14, _ =>
        refine stepS rfl rfl (execStD rfl (hdep _ rfl 13 rfl _ rfl _ rfl) (hdep _ rfl 11 rfl _ rfl _ rfl) (hT.2.2.2.2.2.2.2.2.2.2.2.1 (hl2 _ rfl 13 rfl) hl_).1 (hT.2.2.2.2.2.2.2.2.2.2.1 (hl2 _ rfl 9 rfl))) ⟨s, ⟨_, rfl, rfl⟩, ⟨below4 hT.1 (hT.2.2.2.2.2.2.2.2.2.2.2.2.2.1 (hl2 _ rfl 13 rfl)) _, ((keepT hT.2.1 (hT.2.2.2.2.2.2.2.2.2.2.2.1 (hl2 _ rfl 13 rfl) hl_).1 (by decide) grR18)), ((by rw [setRow_other _ _ _ _ (hT.2.2.2.2.2.2.2.2.2.2.2.2.1 (hl2 _ rfl 13 rfl))]; exact hT.2.2.1)), (fun q0_ => absurd (q0_.symm.trans ((up 14 9 (by decide)).trans (hl2 _ rfl 9 rfl))) (by decide)), (hT.2.2.2.2.1), (hT.2.2.2.2.2.1), (fun q0_ => absurd (q0_.symm.trans ((up 14 9 (by decide)).trans (hl2 _ rfl 9 rfl))) (by decide)), ((fun j hj q hq => Nat.lt_of_lt_of_le (hT.2.2.2.2.2.2.2.1 j hj q hq) (by simp))), (fun q0_ => absurd (q0_.symm.trans ((up 14 9 (by decide)).trans (hl2 _ rfl 9 rfl))) (by decide)), (fun q0_ => (Scs.grown (hT.2.2.2.2.2.2.2.2.2.1 (by rw [up 14 9 (by decide)] at q0_; exact q0_)) (hT.2.2.2.2.2.2.2.2.2.2.2.1 (hl2 _ rfl 13 rfl) hl_).1 (by decide) (hT.2.2.2.2.2.2.2.2.2.2.2.1 (hl2 _ rfl 13 rfl) hl_).2 grR18)), (fun q0_ => (hT.2.2.2.2.2.2.2.2.2.2.1 (by rw [up 14 9 (by decide)] at q0_; exact q0_))), (fun q0_ q1_ => absurd q1_ (by unfold updB; simp)), (fun q0_ => (hT.2.2.2.2.2.2.2.2.2.2.2.2.1 (by rw [up 14 13 (by decide)] at q0_; exact q0_))), (fun q0_ => (hT.2.2.2.2.2.2.2.2.2.2.2.2.2.1 (by rw [up 14 13 (by decide)] at q0_; exact q0_))), (fun _q0_ => ⟨setRow_heap _ _ _ _ _ _ (hT.2.2.2.2.2.2.2.2.2.2.2.1 (hl2 _ rfl 13 rfl) hl_).1, (hT.2.2.2.2.2.2.2.2.2.2.2.1 (hl2 _ rfl 13 rfl) hl_).2⟩)⟩, fun i hi hli => ?_⟩
        match i, hi with
        | 0, _ => rfl
        | 1, _ => rfl
        | 2, _ => rfl
        | 3, _ => rfl
        | 4, _ => rfl
        | 5, _ => rfl
        | 6, _ => rfl
        | 7, _ => rfl
        | 8, _ => rfl
        | 9, _ => rfl
        | 10, _ => rfl
        | 11, _ => rfl
        | 12, _ => rfl
        | 13, _ => rfl
        | 14, _ => exact absurd (hl_.symm.trans hli) (by decide)
        | 15, _ => rfl
        | k_ + 16, h_ => exact absurd h_ (by simp)
      | 15, _ => exact stepV rfl rfl (Cf.execAsgB rfl (hdep _ rfl 12 rfl _ rfl _ rfl)) ⟨s, ⟨_, rfl, rfl⟩, ⟨hT.1, (hT.2.1), (hT.2.2.1), (fun q0_ => absurd (q0_.symm.trans ((up 15 9 (by decide)).trans (hl2 _ rfl 9 rfl))) (by decide)), (hT.2.2.2.2.1), (hT.2.2.2.2.2.1), (fun q0_ => absurd (q0_.symm.trans ((up 15 9 (by decide)).trans (hl2 _ rfl 9 rfl))) (by decide)), (hT.2.2.2.2.2.2.2.1), (fun q0_ => absurd (q0_.symm.trans ((up 15 9 (by decide)).trans (hl2 _ rfl 9 rfl))) (by decide)), (fun q0_ => (hT.2.2.2.2.2.2.2.2.2.1 (by rw [up 15 9 (by decide)] at q0_; exact q0_))), (fun q0_ => (hT.2.2.2.2.2.2.2.2.2.2.1 (by rw [up 15 9 (by decide)] at q0_; exact q0_))), (fun q0_ q1_ => absurd (q1_.symm.trans ((up 15 14 (by decide)).trans (hl2 _ rfl 14 rfl))) (by decide)), (fun q0_ => (hT.2.2.2.2.2.2.2.2.2.2.2.2.1 (by rw [up 15 13 (by decide)] at q0_; exact q0_))), (fun q0_ => (hT.2.2.2.2.2.2.2.2.2.2.2.2.2.1 (by rw [up 15 13 (by decide)] at q0_; exact q0_))), (fun q0_ => (hT.2.2.2.2.2.2.2.2.2.2.2.2.2.2 (by rw [up 15 14 (by decide)] at q0_; exact q0_)))⟩, fun _ _ _ => rfl⟩
      | k_ + 16, h_ => exact absurd h_ (by simp)
    rintro l_ ⟨fa, r2, z2, n2, c2, g14⟩ a X26 h1 h2 h3 h4 hall hT
    clear BB
    clear FD
    clear FB
    clear FQ
    clear Fxg
    clear Fxo
    clear Fx
    clear FL
    clear Feq
    obtain ⟨BB, FD, FB, FQ, Fxg, Fxo, Fx, FL, Feq, FQn, Fsr, FG, Fg14b, Fg14g, FGs⟩ := hT
    replace FD : (X26.heap[dsb]? = some (.cells (c4 v) 26)) := FD
    replace FB : (X26.heap[bkb]? = some (.cells (b4 r (kI k) c) 32)) := FB
    clear FQ
    replace Fxg : (V.heap.size ≤ g9) := Fxg
    replace Fxo : (∀ j, j < 4 → ¬ F j g9) := Fxo
    clear Fx
    replace FL : (∀ j, j < 4 → ∀ q, fa j q → q < X26.heap.size) := FL
    clear Feq
    replace FQn : (Scs I X26 V.heap.size dsb bkb fa v (up r m r2) (up z m z2) (up n m n2) k (up c m c2)) := FQn (hall 9 (by decide))
    replace Fsr : (∃ g n q, r2 = Value.slice g n q) := Fsr (hall 9 (by decide))
    clear FG
    replace Fg14b : (bkb ≠ g14) := Fg14b (hall 13 (by decide))
    replace Fg14g : (V.heap.size ≤ g14) := Fg14g (hall 13 (by decide))
    replace FGs : (G14 X26 fa g14 r2 ((k m : Nat) : Int) c2) := FGs (hall 14 (by decide))
    clear hall
    replace t3 := (h3 3 (by decide)).trans t3
    replace t4 := (h3 4 (by decide)).trans t4
    replace t53 := (h3 53 (by decide)).trans t53
    replace t54 := (h3 54 (by decide)).trans t54
    replace t55 := (h3 55 (by decide)).trans t55
    replace t10 := (h3 10 (by decide)).trans t10
    have t14 : a.eval (.tmp 14) = .pointer (some ⟨g14, 0, none⟩) := h4 (13, 14) (by decide)
    have t15 : a.eval (.tmp 15) = .bool true := h4 (15, 15) (by decide)
    replace A := (⟨h1, h2.trans A.2⟩ : a.tmps.size = 135 ∧ a.defers = [])
    clear h1 h2 h3 h4
    clear t9
    clear FL
    refine wp_seq ?_
    refine wp_seq ?_
    refine wi_ A (h8_ t3 t4 t53 t54 t55 t10 t14 t15) (rv_ 1 (.bool false) (fun a ee => execNot8 (b := true) rfl (ee _)) (rf_ [(114, .bool false)] (h7_ t3 t4 t53 t54 t55 t10 t14) ?_))
    rintro a A ⟨t114, -⟩ ⟨t3, t4, t53, t54, t55, t10, t14, -⟩
    refine wp_cond_false t114 ?_
    refine wp_skip ?_
    clear t114
    refine wi_ A (h7_ t3 t4 t53 t54 t55 t10 t14) (rv_ 2 (.agg (dC r2 ((k m : Nat) : Int) c2)) (fun a ee => execLdD rfl (ee _) FGs.1) (rv_ 3 (.pointer (some ⟨bkb, m * 3, none⟩)) (fun a ee => execIdxBk (k := m) rfl (ee _) (ee _) hm) (rs_ 4 (fun a ee => ?_))))
    refine stepS rfl rfl (execStBk rfl (ee _) (ee _) FB hm Fsr) ⟨_, ⟨_, rfl, rfl⟩, fun X29 hX => ?_⟩
    obtain ⟨BB, FD, FQn, FBn⟩ : Below V.heap.size V X29 ∧ (X29.heap[dsb]? = some (.cells (c4 v) 26)) ∧ (Scs I X29 V.heap.size dsb bkb fa v (up r m r2) (up z m z2) (up n m n2) k (up c m c2)) ∧ (X29.heap[bkb]? = some (.cells (b4 (up r m r2) (up (kI k) m ((k m : Nat) : Int)) (up c m c2)) 32)) := by subst hX; exact ⟨below4 BB FQn.gb.2 _, (keepT FD FB (by decide) grR18), (Scs.grown FQn FB (by decide) (fun j hj => (FQn.bof j hj).2) grR18), setRow_heap _ _ _ _ _ _ FB⟩
    clear FB FGs hX ee a
    refine rf_ [] (h5_ t3 t4 t53 t54 t55) ?_
    rintro a A - ⟨t3, t4, t53, t54, t55, -⟩
    rw [b4_cg (r' := (up r m r2)) (k' := kI k) (c' := (up c m c2)) (fun _ _ => rfl) (fun j _ => by by_cases e : j = m; rw [e, up_at]; rw [up_ne _ _ e]) (fun _ _ => rfl)] at FBn
    have FB := FBn
    clear FBn
    have FQ := FQn
    clear FQn
    refine wi_ A (h5_ t3 t4 t53 t54 t55) (rv_ 0 (.int .i64 ((i + 1 : Nat) : Int)) (fun a ee => execAd8 (p := i) (q := 1) rfl (ee _) rfl (by omega)) (rf_ [(55, .int .i64 ((i + 1 : Nat) : Int))] (h4_ t3 t4 t53 t54) ?_))
    rintro a A ⟨t55, -⟩ ⟨t3, t4, t53, t54, -⟩
    exact ⟨⟨i + 1, fa, v, (up r m r2), (up z m z2), (up n m n2), k, (up c m c2), lti, A, t3, t4, t53, t54, t55, BB, FD, FB, FQ⟩, by show l - (intOf (a.eval (.tmp 55))).toNat < l - (intOf (Act.eval _ (.tmp 55))).toNat; rw [t55, esi]; show l - (i + 1) < l - i; omega⟩
  rw [decide_eq_false lti] at t56
  refine wp_cond_false t56 ?_
  refine wp_exit ?_
  first | with_reducible refine exit_in ?_ | with_reducible refine exit_then (exit_in ?_) | with_reducible refine exit_then (exit_then (exit_in ?_)) | refine exit_in ?_ | refine exit_then (exit_in ?_) | refine exit_then (exit_then (exit_in ?_))
  clear t56 esi
  refine wp_seq ?_
  refine wp_seq ?_
  refine wi_ A (h5_ t3 t4 t53 t54 t55) (rv_ 1 (.int .i64 ((4 : Nat) : Int)) (fun a ee => execLenDs (len := 4) rfl (ee _) ⟨_, _, rfl⟩) (rf_ [(120, .slice (some ⟨dsb, 0, none⟩) 4 4), (121, .int .i64 ((4 : Nat) : Int)), (122, .int .i64 ((0 : Nat) : Int))] (h1_ t4) ?_))
  rintro a A ⟨t120, t121, t122, -⟩ ⟨t4, -⟩
  refine wp_block ?_
  refine wp_loop (fun a W => ∃ (y : Nat), y ≤ 4 ∧ (a.tmps.size = 135 ∧ a.defers = []) ∧ a.eval (.tmp 4) = .slice (some ⟨bkb, 0, none⟩) 4 4 ∧ a.eval (.tmp 120) = .slice (some ⟨dsb, 0, none⟩) 4 4 ∧ a.eval (.tmp 121) = .int .i64 ((4 : Nat) : Int) ∧ a.eval (.tmp 122) = .int .i64 ((y : Nat) : Int) ∧ Below V.heap.size V W ∧ (W.heap[dsb]? = some (.cells (c4 v) 26)) ∧ (W.heap[bkb]? = some (.cells (b4 r (kI k) c) 32)) ∧ (Scs I W V.heap.size dsb bkb F v r z n k c)) (fun a _ => 4 - (intOf (a.eval (.tmp 122))).toNat) ⟨0, Nat.zero_le _, A, t4, t120, t121, t122, BB, FD, FB, FQ⟩ ?_
  clear A t4 t120 t121 t122 BB FD FB FQ a
  rintro a XL32 ⟨y, hy, A, t4, t120, t121, t122, BB, FD, FB, FQ⟩
  have esy := t122
  refine wp_seq ?_
  refine wi_ A (h4_ t4 t120 t121 t122) (rv_ 0 (.bool (decide (y < 4))) (fun a ee => execLtW (p := y) (q := 4) rfl (ee _) (ee _)) (rf_ [(123, .bool (decide (y < 4)))] (h4_ t4 t120 t121 t122) ?_))
  rintro a A ⟨t123, -⟩ ⟨t4, t120, t121, t122, -⟩
  refine wp_seq ?_
  by_cases lty : y < 4
  · rw [decide_eq_true lty] at t123
    refine wp_cond_true t123 ?_
    refine wp_skip ?_
    clear t123
    refine wp_seq ?_
    refine wp_block ?_
    refine wp_seq ?_
    refine wi_ A (h4_ t4 t120 t121 t122) (rv_ 1 (.pointer (some ⟨dsb, y, none⟩)) (fun a ee => execIdxDs (k := y) rfl (ee _) (ee _) lty) (rv_ 2 ((v y)) (fun a ee => execLdDp rfl (ee _) (cell18 FD (c4_at _ lty))) (rf_ [(16, .int .i64 ((y : Nat) : Int)), (17, (v y))] (h4_ t4 t120 t121 t122) ?_)))
    rintro a A ⟨t16, t17, -⟩ ⟨t4, t120, t121, t122, -⟩
    refine wp_seq ?_
    refine wi_ A (h6_ t4 t120 t121 t122 t16 t17) (rv_ 3 (.pointer (some ⟨bkb, y * 3, none⟩)) (fun a ee => execIdxBk (k := y) rfl (ee _) (ee _) lty) (rv_ 4 (.agg (dC (r y) ((k y : Nat) : Int) (c y))) (fun a ee => execLdBk rfl (ee _) FB lty) (rc_ 5 (told_any I (v y) (r y) (F y) (zI (z y)) (n y) (k y) V.heap.size (c y) (z y) XL32 (FQ.dr y lty) (FQ.row y lty)) (cb_ fun X34 bQ => ?_))))
    replace FD := (on9 FD bQ)
    replace FB := (on9 FB bQ)
    replace FQ := (FQ.on bQ)
    replace BB := BB.trans (bQ.mono BB.size)
    clear bQ
    refine rv_ 6 (.bool false) (fun a ee => execNot8 (b := true) rfl (ee _)) (rf_ [(133, .bool false)] (h4_ t4 t120 t121 t122) ?_)
    rintro a A ⟨t133, -⟩ ⟨t4, t120, t121, t122, -⟩
    refine wp_cond_false t133 ?_
    refine wp_skip ?_
    clear t133
    refine wi_ A (h4_ t4 t120 t121 t122) (rv_ 0 (.int .i64 ((y + 1 : Nat) : Int)) (fun a ee => execAd8 (p := y) (q := 1) rfl (ee _) rfl (by omega)) (rf_ [(122, .int .i64 ((y + 1 : Nat) : Int))] (h3_ t4 t120 t121) ?_))
    rintro a A ⟨t122, -⟩ ⟨t4, t120, t121, -⟩
    exact ⟨⟨y + 1, lty, A, t4, t120, t121, t122, BB, FD, FB, FQ⟩, by show 4 - (intOf (a.eval (.tmp 122))).toNat < 4 - (intOf (Act.eval _ (.tmp 122))).toNat; rw [t122, esy]; show 4 - (y + 1) < 4 - y; omega⟩
  rw [decide_eq_false lty] at t123
  refine wp_cond_false t123 ?_
  refine wp_exit ?_
  first | with_reducible refine exit_in ?_ | with_reducible refine exit_then (exit_in ?_) | with_reducible refine exit_then (exit_then (exit_in ?_)) | refine exit_in ?_ | refine exit_then (exit_in ?_) | refine exit_then (exit_then (exit_in ?_))
  clear t123 esy
  refine wp_seq ?_
  refine wi_ A (h4_ t4 t120 t121 t122) (rg_ [(2, .bool true)] ?_)
  rintro a A ⟨t2, -⟩
  refine wp_ret ?_
  refine bodyPost_ret (results_tmp rfl _ _ _) A.2 ⟨?_, BB⟩
  show Ending.returned (a.eval (.tmp 2)) = _
  rw [t2]
end Go.Proofs.Ytialghojibjknaa.Duc
