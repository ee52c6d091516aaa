import Derived.Test.YtnfokemikcigbaaK8g
import Derived.Test.YtnfokemikcigbaaK8j
import Derived.Test.YtnfokemikcigbaaM9d
namespace Go.Proofs.Ytnfokemikcigbaa.Ord
open Go.RowKit Gf8 Aes By8 Cel Cf Win Drw Prm
open Go.ChangeMaps Go.MapKept
/- OrderGives. Written by tools/mkK8l.py. -/

/-- Which of the numbers left is put. -/
def dg (f : Nat → Int) (N i : Nat) : Nat := plc (f i) (N - i)
def pP (f : Nat → Int) (N j : Nat) : Int := ((unr (dg f N) j : Nat) : Int)
def qP (f : Nat → Int) (N j : Nat) : Int := -((unr (dg f N) j : Nat) : Int)
section
variable {f : Nat → Int} {N : Nat}
theorem dg_lt {i : Nat} (h : i < N) : dg f N i < N - i := Nat.mod_lt _ (by omega)
theorem ulg_lt {i j : Nat} (hi : i ≤ N) (hj : j < N - i) : ul (dg f N) i j < N := by
  obtain ⟨k, hk, e⟩ := ul_sub (n := N) (d := dg f N) (i := 0) (x := ul (dg f N) i j) (Nat.zero_le i) hi (fun k hk => dg_lt (by omega)) ⟨j, hj, rfl⟩
  have : ul (dg f N) 0 k = k := rfl
  omega
/-- What is left has not been put. -/
theorem ulg_new {i j k : Nat} (hi : i ≤ N) (hj : j < N - i) (hk : k < i) : ul (dg f N) i j ≠ unr (dg f N) k := by
  have h1 := ul_sub (n := N) (d := dg f N) (i := k + 1) (x := ul (dg f N) i j) (by omega) hi (fun k hk => dg_lt (by omega)) ⟨j, hj, rfl⟩
  exact ((ul_step (n := N) (d := dg f N) (by omega) (dg_lt (by omega))).1 h1).2
theorem dg_all : ∀ k, k < N → dg f N k < N - k := fun _ h => dg_lt h
end
theorem Bk.cg {p q p' q' : Nat → Int} {l n : Nat} {S : Its} (h : Bk p q l n S) (e : ∀ j, j < l → p j = p' j ∧ q j = q' j) : Bk p' q' l n S := by
  refine ⟨fun j hj => (e j hj).1 ▸ h.num j hj, fun j k hj hk w => h.inj j k hj hk (by rw [(e j hj).1, (e k hk).1]; exact w), fun m hm => ?_, fun i v => ?_, h.len⟩
  · obtain ⟨j, h1, h2⟩ := h.out m hm
    exact ⟨j, h1, by rw [← (e j h1).1]; exact h2⟩
  · rw [h.look]
    constructor
    · rintro ⟨j, h1, h2, h3, h4⟩
      exact ⟨j, h1, by rw [← (e j h1).1]; exact h2, h3, by rw [← (e j h1).2]; exact h4⟩
    · rintro ⟨j, h1, h2, h3, h4⟩
      exact ⟨j, h1, by rw [(e j h1).1]; exact h2, h3, by rw [(e j h1).2]; exact h4⟩
theorem open_I {W : World} {v : Value} {n : Nat} {f : Nat → Int} (h : SliceI W v n f) (h0 : 0 < n) : ∃ b o c, v = .slice (some ⟨b, o, none⟩) n c ∧ b < W.heap.size ∧ ∀ j, j < n → W.cell? ⟨b, o + j, none⟩ = some (.int .i64 (f j)) := by
  obtain ⟨a, c, e, _, _, h3⟩ := h.shape
  obtain ⟨b, o, e1, e2, e3⟩ := h3 h0
  exact ⟨b, o, c, by rw [e, e1], e2, e3⟩
theorem exit_past20 {id jd : Nat} {Q : Exit → Act → World → Prop} {a : Act} {w : World} (hne : jd ≠ id) (h : Q (.exit jd) a w) : Exit.inBlock id Q (.exit jd) a w := by
  simp only [Exit.inBlock, if_neg hne]
  exact h
theorem up_cg (p : Nat → Int) (l j : Nat) : up p l (p l) j = p j := by
  by_cases e : j = l
  · rw [e, up_at]
  · rw [up_ne _ _ e]
set_option maxRecDepth 100000 in
set_option maxHeartbeats 4000000 in
/-- OrderGives. -/
theorem gives20 (lv : Value) (N : Nat) (f : Nat → Int) (V : World) (hv : SliceI V lv N f) :
    Calls Try.prog 4 #[lv] V fun e w' => e = .returned (.bool true) ∧ Below V.heap.size V w' := by
  go_enter Try.func4, Try.ntmps4
  refine wo_ 135 [(0, lv)] ?_
  rintro a A ⟨t0, -⟩
  have BW : Below V.heap.size V V := Below.refl _ _
  have BB : Below V.heap.size V V := Below.refl _ _
  refine wp_seq ?_
  refine wi_ A (h1_ t0) (rf_ [] (h1_ t0) ?_)
  rintro a A - ⟨t0, -⟩
  refine wp_seq ?_
  refine wp_seq ?_
  refine wi_ A (h1_ t0) (rc_ 0 (awake20 V) (cb_ fun X1 bQ => ?_))
  replace BB := BB.trans (bQ.mono BB.size)
  clear bQ
  refine rv_ 1 (.bool false) (fun a ee => execNot8 (b := true) rfl (ee _)) (rf_ [(16, .bool false)] (h1_ t0) ?_)
  rintro a A ⟨t16, -⟩ ⟨t0, -⟩
  refine wp_cond_false t16 ?_
  refine wp_skip ?_
  clear t16
  refine wp_seq ?_
  refine wp_seq ?_
  by_cases hbig : 1024 < N
  · refine wi_ A (h1_ t0) (rv_ 1 (.int .i64 ((N : Nat) : Int)) (fun a ee => execLenI (len := N) rfl (ee _) hv.shp) (rv_ 2 (.bool true) (fun a ee => execDec (exIgtr3 (p := ((N : Nat) : Int)) (q := 1024) rfl (ee _) rfl) (decide_eq_true (by omega))) (rf_ [(19, .bool true)] (h1_ t0) ?_)))
    rintro a A ⟨t19, -⟩ ⟨t0, -⟩
    refine wp_cond_true t19 ?_
    clear t19
    refine wp_seq ?_
    refine wi_ A (h1_ t0) (rg_ [(2, .bool true)] ?_)
    rintro a A ⟨t2, -⟩
    refine wp_ret ?_
    repeat (first | with_reducible refine ret_in ?_ | with_reducible refine ret_then ?_)
    refine bodyPost_ret (results_tmp rfl _ _ _) A.2 ⟨?_, BB⟩
    show Ending.returned (a.eval (.tmp 2)) = _
    rw [t2]
  · refine wi_ A (h1_ t0) (rv_ 1 (.int .i64 ((N : Nat) : Int)) (fun a ee => execLenI (len := N) rfl (ee _) hv.shp) (rv_ 2 (.bool false) (fun a ee => execDec (exIgtr3 (p := ((N : Nat) : Int)) (q := 1024) rfl (ee _) rfl) (decide_eq_false (by omega))) (rf_ [(19, .bool false)] (h1_ t0) ?_)))
    rintro a A ⟨t19, -⟩ ⟨t0, -⟩
    refine wp_cond_false t19 ?_
    refine wp_skip ?_
    clear t19
    refine wp_seq ?_
    obtain ⟨gl, eggl⟩ : ∃ z_ : Nat, X1.heap.size = z_ := ⟨_, rfl⟩
    refine wi_ A (h1_ t0) (rv_ 1 (.int .i64 ((N : Nat) : Int)) (fun a ee => execLenI (len := N) rfl (ee _) hv.shp) (rs_ 2 (fun a ee => ?_)))
    refine stepV rfl rfl (execMkN rfl (ee _) (ee _) (by omega)) ⟨.slice (some ⟨gl, 0, none⟩) N N, ⟨_, rfl, by subst eggl; rfl⟩, fun X5 hX => ?_⟩
    have bQ : Below X1.heap.size X1 X5 := by subst hX eggl; exact (belNew X1 _)
    have FO : (X5.ownsRow V.heap.size 3 1 (.slice (some ⟨gl, 0, none⟩) N N) N (intsL N (fun j => if j < 0 then ((j : Nat) : Int) else 0))) := by subst hX eggl; exact ownD_base (own_mkZ X1 N _ (by omega) (fun j_ _ => if_neg (Nat.not_lt_zero _))) (BB).size
    have Fgg : (V.heap.size ≤ gl) := by subst hX eggl; exact (BB).size
    replace BB := BB.trans (bQ.mono BB.size)
    clear bQ hX eggl ee a
    refine rf_ [(3, .slice (some ⟨gl, 0, none⟩) N N)] (h1_ t0) ?_
    rintro a A ⟨t3, -⟩ ⟨t0, -⟩
    refine wp_seq ?_
    refine wp_seq ?_
    refine wi_ A (h2_ t0 t3) (rv_ 1 (.int .i64 ((N : Nat) : Int)) (fun a ee => execLenI (len := N) rfl (ee _) ⟨_, _, rfl⟩) (rf_ [(24, .int .i64 ((N : Nat) : Int)), (25, .int .i64 ((0 : Nat) : Int))] (h2_ t0 t3) ?_))
    rintro a A ⟨t24, t25, -⟩ ⟨t0, t3, -⟩
    refine wp_block ?_
    refine wp_loop (fun a W => ∃ (i : Nat), i ≤ N ∧ (a.tmps.size = 135 ∧ a.defers = []) ∧ a.eval (.tmp 0) = lv ∧ a.eval (.tmp 3) = .slice (some ⟨gl, 0, none⟩) N N ∧ a.eval (.tmp 24) = .int .i64 ((N : Nat) : Int) ∧ a.eval (.tmp 25) = .int .i64 ((i : Nat) : Int) ∧ Below V.heap.size V W ∧ (W.ownsRow V.heap.size 3 1 (.slice (some ⟨gl, 0, none⟩) N N) N (intsL N (fun j => if j < i then ((j : Nat) : Int) else 0)))) (fun a _ => N - (intOf (a.eval (.tmp 25))).toNat) ⟨0, Nat.zero_le _, A, t0, t3, t24, t25, BB, FO⟩ ?_
    clear A t0 t3 t24 t25 BB FO a
    rintro a XL7 ⟨i, hi, A, t0, t3, t24, t25, BB, FO⟩
    have esi := t25
    refine wp_seq ?_
    refine wi_ A (h4_ t0 t3 t24 t25) (rv_ 0 (.bool (decide (i < N))) (fun a ee => execLtW (p := i) (q := N) rfl (ee _) (ee _)) (rf_ [(26, .bool (decide (i < N)))] (h4_ t0 t3 t24 t25) ?_))
    rintro a A ⟨t26, -⟩ ⟨t0, t3, t24, t25, -⟩
    refine wp_seq ?_
    by_cases lti : i < N
    · rw [decide_eq_true lti] at t26
      refine wp_cond_true t26 ?_
      refine wp_skip ?_
      clear t26
      refine wp_seq ?_
      refine wp_block ?_
      refine wp_seq ?_
      refine wi_ A (h4_ t0 t3 t24 t25) (rf_ [(4, .int .i64 ((i : Nat) : Int))] (h4_ t0 t3 t24 t25) ?_)
      rintro a A ⟨t4, -⟩ ⟨t0, t3, t24, t25, -⟩
      refine wi_ A (h5_ t0 t3 t24 t25 t4) (rv_ 3 (.pointer (some ⟨gl, 0 + i, none⟩)) (fun a ee => execIdxN (k := i) rfl (ee _) (ee _) lti) (rs_ 4 (fun a ee => ?_)))
      obtain ⟨hc_, hf_⟩ := own_cellI FO lti
      refine stepS rfl rfl (execStI9 rfl (ee _) (ee _) hc_ hf_) ⟨_, ⟨_, rfl, rfl⟩, fun X9 hX => ?_⟩
      obtain ⟨BB, FO2⟩ : Below V.heap.size V X9 ∧ (X9.ownsRow V.heap.size 3 1 (.slice (some ⟨gl, 0, none⟩) N N) N (intsL N (fun j => if j < (i + 1) then ((j : Nat) : Int) else 0))) := by subst hX; exact ⟨(BB).setCell Fgg _, own_fill FO rfl⟩
      clear FO hX ee a
      refine rf_ [] (h4_ t0 t3 t24 t25) ?_
      rintro a A - ⟨t0, t3, t24, t25, -⟩
      refine wi_ A (h4_ t0 t3 t24 t25) (rv_ 0 (.int .i64 ((i + 1 : Nat) : Int)) (fun a ee => execAd8 (p := i) (q := 1) rfl (ee _) rfl (by omega)) (rf_ [(25, .int .i64 ((i + 1 : Nat) : Int))] (h3_ t0 t3 t24) ?_))
      rintro a A ⟨t25, -⟩ ⟨t0, t3, t24, -⟩
      exact ⟨⟨i + 1, lti, A, t0, t3, t24, t25, BB, FO2⟩, by show N - (intOf (a.eval (.tmp 25))).toNat < N - (intOf (Act.eval _ (.tmp 25))).toNat; rw [t25, esi]; show N - (i + 1) < N - i; omega⟩
    rw [decide_eq_false lti] at t26
    refine wp_cond_false t26 ?_
    refine wp_exit ?_
    first | with_reducible refine exit_in ?_ | with_reducible refine exit_then (exit_in ?_) | with_reducible refine exit_then (exit_then (exit_in ?_)) | refine exit_in ?_ | refine exit_then (exit_in ?_) | refine exit_then (exit_then (exit_in ?_))
    clear t26 esi
    obtain rfl : N = i := by omega
    rw [intsL_congr (f := fun j => if j < N then ((j : Nat) : Int) else 0) (g := fun j => ((ul (dg f N) 0 j : Nat) : Int)) (fun j hj => if_pos hj)] at FO
    refine wp_seq ?_
    refine wi_ A (h4_ t0 t3 t24 t25) (rc_ 0 (pnewI XL7) fun e X11 hh => ?_)
    obtain ⟨⟨g, fp, he, hk, hf⟩, hb⟩ := hh
    refine ⟨_, he, ?_⟩
    have bQ : Below XL7.heap.size XL7 X11 := hb
    have FR : (BR 66 X11 fp (.pointer (some ⟨g, 0, none⟩)) [] 0) := hk
    have Fge : (∀ q, fp q → V.heap.size ≤ q) := fun q hq => Nat.le_trans (BB).size (hf q hq)
    have Fgl : (¬ fp gl) := fun h => Nat.not_lt.2 (hf gl h) (FO.lt gl rfl).2
    replace FO := (ownD_below FO bQ)
    replace BB := BB.trans (bQ.mono BB.size)
    clear bQ
    refine rf_ [(5, .pointer (some ⟨g, 0, none⟩))] (h2_ t0 t3) ?_
    rintro a A ⟨t5, -⟩ ⟨t0, t3, -⟩
    refine wp_seq ?_
    refine wp_seq ?_
    refine wi_ A (h3_ t0 t3 t5) (rv_ 1 (.bool false) (fun a ee => execPIeqls rfl (ee _)) (rf_ [(35, .bool false)] (h3_ t0 t3 t5) ?_))
    rintro a A ⟨t35, -⟩ ⟨t0, t3, t5, -⟩
    refine wp_cond_false t35 ?_
    refine wp_skip ?_
    clear t35
    refine wp_seq ?_
    refine wi_ A (h3_ t0 t3 t5) (rf_ [(6, .int .i64 ((0 : Nat) : Int))] (h3_ t0 t3 t5) ?_)
    rintro a A ⟨t6, -⟩ ⟨t0, t3, t5, -⟩
    refine wp_seq ?_
    refine wp_seq ?_
    refine wi_ A (h4_ t0 t3 t5 t6) (rv_ 1 (.int .i64 ((N : Nat) : Int)) (fun a ee => execLenI (len := N) rfl (ee _) hv.shp) (rf_ [(36, lv), (37, .int .i64 ((N : Nat) : Int)), (38, .int .i64 ((0 : Nat) : Int))] (h4_ t0 t3 t5 t6) ?_))
    rintro a A ⟨t36, t37, t38, -⟩ ⟨t0, t3, t5, t6, -⟩
    refine wp_block ?_
    refine wp_loop (fun a W => ∃ (i : Nat) (F : (Nat → Prop)) (S : Its) (gv : Nat), i ≤ N ∧ (Bk (pP f N) (qP f N) i gv S) ∧ (∀ q, F q → V.heap.size ≤ q) ∧ (¬ F gl) ∧ (∀ j, j < i → pP f N j ≠ ((gv : Nat) : Int)) ∧ (a.tmps.size = 135 ∧ a.defers = []) ∧ a.eval (.tmp 0) = lv ∧ a.eval (.tmp 3) = .slice (some ⟨gl, 0, none⟩) (N - i) N ∧ a.eval (.tmp 5) = .pointer (some ⟨g, 0, none⟩) ∧ a.eval (.tmp 6) = .int .i64 ((gv : Nat) : Int) ∧ a.eval (.tmp 36) = lv ∧ a.eval (.tmp 37) = .int .i64 ((N : Nat) : Int) ∧ a.eval (.tmp 38) = .int .i64 ((i : Nat) : Int) ∧ Below V.heap.size V W ∧ (BR 66 W F (.pointer (some ⟨g, 0, none⟩)) S gv) ∧ (W.ownsRow V.heap.size 3 1 (.slice (some ⟨gl, 0, none⟩) (N - i) N) (N - i) (intsL (N - i) (fun j => ((ul (dg f N) i j : Nat) : Int))))) (fun a _ => N - (intOf (a.eval (.tmp 38))).toNat) ⟨0, fp, [], 0, Nat.zero_le _, Bk.zero _ _, Fge, Fgl, fun j hj => absurd hj (Nat.not_lt_zero j), A, t0, t3, t5, t6, t36, t37, t38, BB, FR, FO⟩ ?_
    clear A t0 t3 t5 t6 t36 t37 t38 BB FR FO a
    rintro a XL16 ⟨i, F, S, gv, hi, hB, Fge, Fgl, hno, A, t0, t3, t5, t6, t36, t37, t38, BB, FR, FO⟩
    have esi := t38
    refine wp_seq ?_
    refine wi_ A (h7_ t0 t3 t5 t6 t36 t37 t38) (rv_ 0 (.bool (decide (i < N))) (fun a ee => execLtW (p := i) (q := N) rfl (ee _) (ee _)) (rf_ [(39, .bool (decide (i < N)))] (h7_ t0 t3 t5 t6 t36 t37 t38) ?_))
    rintro a A ⟨t39, -⟩ ⟨t0, t3, t5, t6, t36, t37, t38, -⟩
    refine wp_seq ?_
    by_cases lti : i < N
    · rw [decide_eq_true lti] at t39
      refine wp_cond_true t39 ?_
      refine wp_skip ?_
      clear t39
      refine wp_seq ?_
      refine wp_block ?_
      obtain ⟨pb, po, pc, ep_, hpb, hpc⟩ := open_I hv (show 0 < N by omega)
      have cP : ∀ X, Below V.heap.size V X → X.cell? ⟨pb, po + i, none⟩ = some (.int .i64 (f i)) := fun X hX => by rw [cell_below hX hpb]; exact hpc i lti
      have hfi := hv.fits i lti
      have hd : dg f N i < N - i := dg_lt lti
      have hul : ∀ j, j < N - i → -9223372036854775808 ≤ ((ul (dg f N) i j : Nat) : Int) ∧ ((ul (dg f N) i j : Nat) : Int) < 9223372036854775808 := fun j hj => by have := ulg_lt (f := f) (Nat.le_of_lt lti) hj; omega
      refine wp_seq ?_
      refine wi_ A (h7_ t0 t3 t5 t6 t36 t37 t38) (rv_ 1 (.pointer (some ⟨pb, po + i, none⟩)) (fun a ee => execIdxN (k := i) rfl ((ee _).trans ep_) (ee _) lti) (rv_ 2 (.int .i64 (f i)) (fun a ee => execL20 rfl (Or.inl rfl) (ee _) (cP XL16 BB)) (rf_ [(7, .int .i64 ((i : Nat) : Int)), (8, .int .i64 (f i))] (h7_ t0 t3 t5 t6 t36 t37 t38) ?_)))
      rintro a A ⟨t7, t8, -⟩ ⟨t0, t3, t5, t6, t36, t37, t38, -⟩
      refine wp_seq ?_
      refine wi_ A (h9_ t0 t3 t5 t6 t36 t37 t38 t7 t8) (rv_ 2 (.int .i64 ((N - i : Nat) : Int)) (fun a ee => execLenI (len := N - i) rfl (ee _) ⟨_, _, rfl⟩) (rc_ 3 (place20 (f i) (N - i) XL16 hfi.1 hfi.2 (by omega) (by omega)) (cs_ (rf_ [(9, .int .i64 ((dg f N i : Nat) : Int))] (h8_ t0 t3 t5 t6 t36 t37 t38 t7) ?_))))
      rintro a A ⟨t9, -⟩ ⟨t0, t3, t5, t6, t36, t37, t38, t7, -⟩
      refine wp_seq ?_
      refine wi_ A (h9_ t0 t3 t5 t6 t36 t37 t38 t7 t9) (rv_ 2 (.pointer (some ⟨gl, 0 + (dg f N i), none⟩)) (fun a ee => execIdxN (k := dg f N i) rfl (ee _) (ee _) hd) (rv_ 3 (.int .i64 ((unr (dg f N) i : Nat) : Int)) (fun a ee => execL20 rfl (Or.inl rfl) (ee _) (own_cellI FO hd).1) (rf_ [(10, .int .i64 ((unr (dg f N) i : Nat) : Int))] (h9_ t0 t3 t5 t6 t36 t37 t38 t7 t9) ?_)))
      rintro a A ⟨t10, -⟩ ⟨t0, t3, t5, t6, t36, t37, t38, t7, t9, -⟩
      have rem_if : ∀ j, (if j < dg f N i then ((ul (dg f N) i j : Nat) : Int) else ((ul (dg f N) i (j + 1) : Nat) : Int)) = ((ul (dg f N) (i + 1) j : Nat) : Int) := fun j => by
        show _ = ((rem (ul (dg f N) i) (dg f N i) j : Nat) : Int)
        unfold rem
        split <;> rfl
      refine wp_seq ?_
      refine wj_ [0, 1, 2, 3, 4, 5, 6, 7, 8] [7] [] [7] A (h10_ t0 t3 t5 t6 t36 t37 t38 t7 t9 t10) (fun X20_0 bD => ?_)
      refine dw_ 2 (.slice (some ⟨gl, 0, none⟩) (dg f N i) N) (fun a X ee => By8.execSlH rfl (ee _) (ee _) (sl_hI gl _ N (dg f N i) (by omega) X)) (dw_ 5 (.int .i64 ((dg f N i + 1 : Nat) : Int)) (fun a X ee => execAd8 (p := dg f N i) (q := 1) rfl (ee _) rfl (by omega)) (dw_ 6 (sliced (some ⟨gl, 0, none⟩) (dg f N i + 1) (N - i) N 1) (fun a X ee => execSlLg rfl (ee _) (ee _) (sl_lIg gl _ N (dg f N i + 1) (by omega) X)) (ds_ 7 (fun a ee => ?_))))
      refine stepAppD (N := N - (i + 1)) (F := fun j => ((ul (dg f N) (i + 1) j : Nat) : Int)) rfl rfl rfl (ee _) (ee _) (own_takeI (ownD_below FO bD) (by omega)) (SliceI.sub (own_ints (ownD_below FO bD) hul) (dg f N i + 1) (N - i) (by omega) (Nat.le_refl _)) (sliced_some _ _ _ _) (by omega) (by omega) (by omega) (fun j hj => (del_cat _ _ j).trans (rem_if j)) ((BB.trans (bD.mono BB.size))).size fun X20 own' gr => ⟨_, ⟨_, rfl, rfl⟩, eqw ?_⟩
      obtain ⟨BB, FR, FO2⟩ : Below V.heap.size V X20 ∧ (BR 66 X20 F (.pointer (some ⟨g, 0, none⟩)) S gv) ∧ (X20.ownsRow V.heap.size 3 1 (.slice (some ⟨gl, 0, none⟩) (N - (i + 1)) N) (N - (i + 1)) (intsL (N - (i + 1)) (fun j => ((ul (dg f N) (i + 1) j : Nat) : Int)))) := ⟨((BB.trans (bD.mono BB.size))).grown gr ((BB.trans (bD.mono BB.size))).size (fun k hk => (Option.some.inj hk) ▸ ((ownD_below FO bD).lt gl rfl).1), (br_gr (FR.on bD) gr (fun g_ e_ => by cases e_; exact Fgl)), own'⟩
      clear bD FO ee a
      refine ⟨Or.inl rfl, ?_⟩
      refine dz_ [(3, .slice (some ⟨gl, 0, none⟩) (N - (i + 1)) N)] (h8_ t0 t5 t6 t36 t37 t38 t7 t10) ?_
      rintro a A ⟨t3, -⟩ ⟨t0, t5, t6, t36, t37, t38, t7, t10, -⟩
      have FO := FO2
      clear FO2
      have hu : unr (dg f N) i < N := ulg_lt (Nat.le_of_lt lti) hd
      have hi64 : I64 ((unr (dg f N) i : Nat) : Int) := by constructor <;> omega
      have hnw : ∀ j, j < i → pP f N j ≠ ((unr (dg f N) i : Nat) : Int) := fun j hj e => ulg_new (f := f) (Nat.le_of_lt lti) hd hj (Int.ofNat.inj e).symm
      have hni : ¬ (((unr (dg f N) i : Nat) : Int) ∈ kys S ∨ ((unr (dg f N) i : Nat) : Int) < ((gv : Nat) : Int)) := fun w => by
        obtain ⟨j, w1, w2⟩ := (hB.twice (by omega)).1 w
        exact hnw j w1 w2
      have hB1 : Bk (pP f N) (qP f N) (i + 1) gv (S ++ [(((unr (dg f N) i : Nat) : Int), Value.int .i64 (-((unr (dg f N) i : Nat) : Int)))]) := (hB.put (x := -((unr (dg f N) i : Nat) : Int)) (by omega) hi64 hnw).cg (fun j _ => ⟨up_cg (pP f N) i j, up_cg (qP f N) i j⟩)
      refine wp_seq ?_
      refine wp_seq ?_
      refine wi_ A (h9_ t0 t3 t5 t6 t36 t37 t38 t7 t10) (rv_ 3 (.int .i64 (-((unr (dg f N) i : Nat) : Int))) (fun a ee => execNg20 (p := ((unr (dg f N) i : Nat) : Int)) rfl (ee _) (by omega) (by omega)) (rc_ 4 (pput_oI (i := ((unr (dg f N) i : Nat) : Int)) FR (.int .i64 (-((unr (dg f N) i : Nat) : Int))) hi64 (by omega) (fun w => hni (Or.inl w)) (fun w => hni (Or.inr w))) fun e X21_1 hh => ?_))
      obtain ⟨fp1, he, hk, hs, hf⟩ := hh
      refine ⟨_, he, ?_⟩
      obtain ⟨BB, FO, FR1, Fge1, Fgl1⟩ : Below V.heap.size V X21_1 ∧ (X21_1.ownsRow V.heap.size 3 1 (.slice (some ⟨gl, 0, none⟩) (N - (i + 1)) N) (N - (i + 1)) (intsL (N - (i + 1)) (fun j => ((ul (dg f N) (i + 1) j : Nat) : Int)))) ∧ (BR 66 X21_1 fp1 (.pointer (some ⟨g, 0, none⟩)) (S ++ [(((unr (dg f N) i : Nat) : Int), Value.int .i64 (-((unr (dg f N) i : Nat) : Int)))]) gv) ∧ (∀ q, fp1 q → V.heap.size ≤ q) ∧ (¬ fp1 gl) := ⟨sv_bel BB hs Fge, (own_sv FO hs (fun g_ hg_ => by cases hg_; exact Fgl)), hk, fun q hq => (hf q hq).elim (Fge q) (fun w => Nat.le_trans (BB).size w), fun h => (hf gl h).elim Fgl (fun w => Nat.not_lt.2 w (FO.lt gl rfl).2)⟩
      clear FR
      refine rv_ 5 (.bool false) (fun a ee => execDec (exIneqE (p := ((0 : Nat) : Int)) (q := 0) rfl (ee _) rfl) (decide_eq_false (fun h => h rfl))) (rc_ 9 (pput_wI (i := ((unr (dg f N) i : Nat) : Int)) FR1 (.int .i64 5) hi64 (by omega) ((hB1.twice (by omega)).2 ⟨i, by omega, rfl⟩)) (cb_ fun X21 bQ => ?_))
      replace FO := (ownD_below FO bQ)
      replace FR1 := (FR1.on bQ)
      replace BB := BB.trans (bQ.mono BB.size)
      clear bQ
      refine rv_ 10 (.bool false) (fun a ee => execDec (exIneqE (p := ((200 : Nat) : Int)) (q := 200) rfl (ee _) rfl) (decide_eq_false (fun h => h rfl))) (rf_ [(70, .bool false)] (h8_ t0 t3 t5 t6 t36 t37 t38 t7) ?_)
      rintro a A ⟨t70, -⟩ ⟨t0, t3, t5, t6, t36, t37, t38, t7, -⟩
      refine wp_cond_false t70 ?_
      refine wp_skip ?_
      clear t70
      have FR := FR1
      clear FR1
      refine wp_seq ?_
      refine wp_seq ?_
      refine wi_ A (h8_ t0 t3 t5 t6 t36 t37 t38 t7) (rv_ 1 (.int .i64 ((N : Nat) : Int)) (fun a ee => execLenI (len := N) rfl (ee _) hv.shp) (rv_ 2 (.int .i64 ((N + 1 : Nat) : Int)) (fun a ee => execAd8 (p := N) (q := 1) rfl (ee _) rfl (by omega)) (rf_ [(73, .int .i64 ((N + 1 : Nat) : Int)), (74, .int .i64 ((0 : Nat) : Int))] (h8_ t0 t3 t5 t6 t36 t37 t38 t7) ?_)))
      rintro a A ⟨t73, t74, -⟩ ⟨t0, t3, t5, t6, t36, t37, t38, t7, -⟩
      refine wp_block ?_
      refine wp_loop (fun a W => ∃ (y : Nat) (F1 : (Nat → Prop)) (S1 : Its) (g1 : Nat), y ≤ (N + 1) ∧ (Bk (pP f N) (qP f N) (i + 1) g1 S1) ∧ (∀ q, F1 q → V.heap.size ≤ q) ∧ (¬ F1 gl) ∧ (g1 = gv + y) ∧ (a.tmps.size = 135 ∧ a.defers = []) ∧ a.eval (.tmp 0) = lv ∧ a.eval (.tmp 3) = .slice (some ⟨gl, 0, none⟩) (N - (i + 1)) N ∧ a.eval (.tmp 5) = .pointer (some ⟨g, 0, none⟩) ∧ a.eval (.tmp 6) = .int .i64 ((g1 : Nat) : Int) ∧ a.eval (.tmp 36) = lv ∧ a.eval (.tmp 37) = .int .i64 ((N : Nat) : Int) ∧ a.eval (.tmp 38) = .int .i64 ((i : Nat) : Int) ∧ a.eval (.tmp 7) = .int .i64 ((i : Nat) : Int) ∧ a.eval (.tmp 73) = .int .i64 ((N + 1 : Nat) : Int) ∧ a.eval (.tmp 74) = .int .i64 ((y : Nat) : Int) ∧ Below V.heap.size V W ∧ (BR 66 W F1 (.pointer (some ⟨g, 0, none⟩)) S1 g1) ∧ (W.ownsRow V.heap.size 3 1 (.slice (some ⟨gl, 0, none⟩) (N - (i + 1)) N) (N - (i + 1)) (intsL (N - (i + 1)) (fun j => ((ul (dg f N) (i + 1) j : Nat) : Int))))) (fun a _ => (N + 1) - (intOf (a.eval (.tmp 74))).toNat) ⟨0, fp1, (S ++ [(((unr (dg f N) i : Nat) : Int), Value.int .i64 (-((unr (dg f N) i : Nat) : Int)))]), gv, Nat.zero_le _, hB1, Fge1, Fgl1, rfl, A, t0, t3, t5, t6, t36, t37, t38, t7, t73, t74, BB, FR, FO⟩ ?_
      clear A t0 t3 t5 t6 t36 t37 t38 t7 t73 t74 BB FR FO a
      rintro a XL24 ⟨y, F1, S1, g1, hy, hB2, Fge1, Fgl1, hgy, A, t0, t3, t5, t6, t36, t37, t38, t7, t73, t74, BB, FR, FO⟩
      have esy := t74
      refine wp_seq ?_
      refine wi_ A (h10_ t0 t3 t5 t6 t36 t37 t38 t7 t73 t74) (rv_ 0 (.bool (decide (y < N + 1))) (fun a ee => execLtW (p := y) (q := N + 1) rfl (ee _) (ee _)) (rf_ [(75, .bool (decide (y < N + 1)))] (h10_ t0 t3 t5 t6 t36 t37 t38 t7 t73 t74) ?_))
      rintro a A ⟨t75, -⟩ ⟨t0, t3, t5, t6, t36, t37, t38, t7, t73, t74, -⟩
      refine wp_seq ?_
      by_cases lty : y < (N + 1)
      · rw [decide_eq_true lty] at t75
        refine wp_cond_true t75 ?_
        refine wp_skip ?_
        clear t75
        refine wp_seq ?_
        refine wp_block ?_
        have hlen := hB2.len
        by_cases hj : ∃ j, j < i + 1 ∧ pP f N j = ((g1 : Nat) : Int)
        · have hnd := FR.nod
          obtain ⟨j, hjl, hj⟩ := hj
          have hjq : qP f N j = -((g1 : Nat) : Int) := by
            have h_ : ((unr (dg f N) j : Nat) : Int) = ((g1 : Nat) : Int) := hj
            show -((unr (dg f N) j : Nat) : Int) = _
            omega
          refine wp_seq ?_
          refine wi_ A (h10_ t0 t3 t5 t6 t36 t37 t38 t7 t73 t74) (rc_ 1 (pnext_oI (x := .int .i64 (qP f N j)) FR (by omega) (hB2.at hjl hj)) fun e X25 hh => ?_)
          obtain ⟨fp2, he, hk, hs, hf⟩ := hh
          refine ⟨_, he, ?_⟩
          obtain ⟨BB, FO, FR2, Fge2, Fgl2⟩ : Below V.heap.size V X25 ∧ (X25.ownsRow V.heap.size 3 1 (.slice (some ⟨gl, 0, none⟩) (N - (i + 1)) N) (N - (i + 1)) (intsL (N - (i + 1)) (fun j => ((ul (dg f N) (i + 1) j : Nat) : Int)))) ∧ (BR 66 X25 fp2 (.pointer (some ⟨g, 0, none⟩)) (wo S1 ((g1 : Nat) : Int)) (g1 + 1)) ∧ (∀ q, fp2 q → V.heap.size ≤ q) ∧ (¬ fp2 gl) := ⟨sv_bel BB hs Fge1, (own_sv FO hs (fun g_ hg_ => by cases hg_; exact Fgl1)), hk, fun q hq => (hf q hq).elim (Fge1 q) (fun w => Nat.le_trans (BB).size w), fun h => (hf gl h).elim Fgl1 (fun w => Nat.not_lt.2 w (FO.lt gl rfl).2)⟩
          clear FR
          refine rf_ [(11, .int .i64 (qP f N j)), (12, .bool true)] (h10_ t0 t3 t5 t6 t36 t37 t38 t7 t73 t74) ?_
          rintro a A ⟨t11, t12, -⟩ ⟨t0, t3, t5, t6, t36, t37, t38, t7, t73, t74, -⟩
          refine wp_seq ?_
          refine wp_seq ?_
          refine wi_ A (h12_ t0 t3 t5 t6 t36 t37 t38 t7 t73 t74 t11 t12) (rv_ 1 (.bool false) (fun a ee => execNot8 (b := true) rfl (ee _)) (rf_ [(82, .bool false)] (h11_ t0 t3 t5 t6 t36 t37 t38 t7 t73 t74 t11) ?_))
          rintro a A ⟨t82, -⟩ ⟨t0, t3, t5, t6, t36, t37, t38, t7, t73, t74, t11, -⟩
          refine wp_cond_false t82 ?_
          refine wp_skip ?_
          clear t82
          refine wp_seq ?_
          refine wp_seq ?_
          refine wi_ A (h11_ t0 t3 t5 t6 t36 t37 t38 t7 t73 t74 t11) (rv_ 2 (.int .i64 (-((g1 : Nat) : Int))) (fun a ee => execNg20 (p := ((g1 : Nat) : Int)) rfl (ee _) (by omega) (by omega)) (rv_ 3 (.bool false) (fun a ee => execDec (exIneq3 (p := (qP f N j)) (q := (-((g1 : Nat) : Int))) rfl (ee _) (ee _)) (decide_eq_false (fun h => h hjq))) (rf_ [(86, .bool false)] (h10_ t0 t3 t5 t6 t36 t37 t38 t7 t73 t74) ?_)))
          rintro a A ⟨t86, -⟩ ⟨t0, t3, t5, t6, t36, t37, t38, t7, t73, t74, -⟩
          refine wp_cond_false t86 ?_
          refine wp_skip ?_
          clear t86
          refine wi_ A (h10_ t0 t3 t5 t6 t36 t37 t38 t7 t73 t74) (rv_ 1 (.int .i64 ((g1 + 1 : Nat) : Int)) (fun a ee => execAd8 (p := g1) (q := 1) rfl (ee _) rfl (by omega)) (rf_ [(6, .int .i64 ((g1 + 1 : Nat) : Int))] (h9_ t0 t3 t5 t36 t37 t38 t7 t73 t74) ?_))
          rintro a A ⟨t6, -⟩ ⟨t0, t3, t5, t36, t37, t38, t7, t73, t74, -⟩
          have hB3 := hB2.next hnd (hB2.at hjl hj)
          have hgy2 : g1 + 1 = gv + (y + 1) := by omega
          have FR := FR2
          clear FR2
          refine wi_ A (h10_ t0 t3 t5 t6 t36 t37 t38 t7 t73 t74) (rv_ 0 (.int .i64 ((y + 1 : Nat) : Int)) (fun a ee => execAd8 (p := y) (q := 1) rfl (ee _) rfl (by omega)) (rf_ [(74, .int .i64 ((y + 1 : Nat) : Int))] (h9_ t0 t3 t5 t6 t36 t37 t38 t7 t73) ?_))
          rintro a A ⟨t74, -⟩ ⟨t0, t3, t5, t6, t36, t37, t38, t7, t73, -⟩
          exact ⟨⟨y + 1, fp2, (wo S1 ((g1 : Nat) : Int)), (g1 + 1), lty, hB3, Fge2, Fgl2, hgy2, A, t0, t3, t5, t6, t36, t37, t38, t7, t73, t74, BB, FR, FO⟩, by show (N + 1) - (intOf (a.eval (.tmp 74))).toNat < (N + 1) - (intOf (Act.eval _ (.tmp 74))).toNat; rw [t74, esy]; show (N + 1) - (y + 1) < (N + 1) - y; omega⟩
        · have hno2 : ∀ j, j < i + 1 → pP f N j ≠ ((g1 : Nat) : Int) := fun j h1 h2 => hj ⟨j, h1, h2⟩
          refine wp_seq ?_
          refine wi_ A (h10_ t0 t3 t5 t6 t36 t37 t38 t7 t73 t74) (rc_ 1 (pnext_eI FR (by omega) (hB2.none hno2)) (cb_ fun X25 bQ => ?_))
          replace FR := (FR.on bQ)
          replace FO := (ownD_below FO bQ)
          replace BB := BB.trans (bQ.mono BB.size)
          clear bQ
          refine rf_ [(12, .bool false)] (h10_ t0 t3 t5 t6 t36 t37 t38 t7 t73 t74) ?_
          rintro a A ⟨t12, -⟩ ⟨t0, t3, t5, t6, t36, t37, t38, t7, t73, t74, -⟩
          refine wp_seq ?_
          refine wp_seq ?_
          refine wi_ A (h11_ t0 t3 t5 t6 t36 t37 t38 t7 t73 t74 t12) (rv_ 1 (.bool true) (fun a ee => execNot8 (b := false) rfl (ee _)) (rf_ [(82, .bool true)] (h10_ t0 t3 t5 t6 t36 t37 t38 t7 t73 t74) ?_))
          rintro a A ⟨t82, -⟩ ⟨t0, t3, t5, t6, t36, t37, t38, t7, t73, t74, -⟩
          refine wp_cond_true t82 ?_
          refine wp_exit ?_
          repeat (first | with_reducible refine exit_then ?_ | with_reducible refine exit_past20 (by decide) ?_)
          refine exit_in ?_
          clear t82
          by_cases hgN : g1 < N
          · refine wp_seq ?_
            refine wp_seq ?_
            refine wi_ A (h10_ t0 t3 t5 t6 t36 t37 t38 t7 t73 t74) (rc_ 1 (patI FR) (cb_ fun X31_1 bQ => ?_))
            replace FR := (FR.on bQ)
            replace FO := (ownD_below FO bQ)
            replace BB := BB.trans (bQ.mono BB.size)
            clear bQ
            refine rv_ 3 (.bool false) (fun a ee => execDec (exIneq3 (p := ((g1 : Nat) : Int)) (q := ((g1 : Nat) : Int)) rfl (ee _) (ee _)) (decide_eq_false (fun h => h (by omega)))) (rc_ 6 (pheldI FR) (cb_ fun X31 bQ => ?_))
            replace FR := (FR.on bQ)
            replace FO := (ownD_below FO bQ)
            replace BB := BB.trans (bQ.mono BB.size)
            clear bQ
            refine rv_ 8 (.int .i64 ((i + 1 : Nat) : Int)) (fun a ee => execAd8 (p := i) (q := 1) rfl (ee _) rfl (by omega)) (rv_ 10 (.int .i64 ((i + 1 - g1 : Nat) : Int)) (fun a ee => By8.execSubI (p := i + 1) (q := g1) rfl (ee _) (ee _) (by omega) (by omega)) (rv_ 11 (.bool false) (fun a ee => execDec (exIneq3 (p := ((S1.length : Nat) : Int)) (q := ((i + 1 - g1 : Nat) : Int)) rfl (ee _) (ee _)) (decide_eq_false (fun h => h (by omega)))) (rv_ 16 (.int .i64 ((N : Nat) : Int)) (fun a ee => execLenI (len := N) rfl (ee _) hv.shp) (rv_ 17 (.bool true) (fun a ee => execDec (exIlss3 (p := ((g1 : Nat) : Int)) (q := ((N : Nat) : Int)) rfl (ee _) (ee _)) (decide_eq_true (by omega))) (rv_ 21 (.int .i64 ((i + 1 : Nat) : Int)) (fun a ee => execAd8 (p := i) (q := 1) rfl (ee _) rfl (by omega)) (rv_ 22 (.bool false) (fun a ee => execDec (exIgtr3 (p := ((g1 : Nat) : Int)) (q := ((i + 1 : Nat) : Int)) rfl (ee _) (ee _)) (decide_eq_false (by omega))) (rf_ [(114, .bool false)] (h8_ t0 t3 t5 t6 t7 t36 t37 t38) ?_)))))))
            rintro a A ⟨t114, -⟩ ⟨t0, t3, t5, t6, t7, t36, t37, t38, -⟩
            refine wp_cond_false t114 ?_
            refine wp_skip ?_
            clear t114
            refine wp_seq ?_
            refine wi_ A (h8_ t0 t3 t5 t6 t7 t36 t37 t38) (rv_ 1 (.int .i64 ((N - (i + 1) : Nat) : Int)) (fun a ee => execLenI (len := N - (i + 1)) rfl (ee _) ⟨_, _, rfl⟩) (rf_ [(115, .slice (some ⟨gl, 0, none⟩) (N - (i + 1)) N), (116, .int .i64 ((N - (i + 1) : Nat) : Int)), (117, .int .i64 ((0 : Nat) : Int))] (h7_ t0 t3 t5 t6 t36 t37 t38) ?_))
            rintro a A ⟨t115, t116, t117, -⟩ ⟨t0, t3, t5, t6, t36, t37, t38, -⟩
            refine wp_block ?_
            refine wp_loop (fun a W => ∃ (y2 : Nat), y2 ≤ (N - (i + 1)) ∧ (a.tmps.size = 135 ∧ a.defers = []) ∧ a.eval (.tmp 0) = lv ∧ a.eval (.tmp 3) = .slice (some ⟨gl, 0, none⟩) (N - (i + 1)) N ∧ a.eval (.tmp 5) = .pointer (some ⟨g, 0, none⟩) ∧ a.eval (.tmp 6) = .int .i64 ((g1 : Nat) : Int) ∧ a.eval (.tmp 36) = lv ∧ a.eval (.tmp 37) = .int .i64 ((N : Nat) : Int) ∧ a.eval (.tmp 38) = .int .i64 ((i : Nat) : Int) ∧ a.eval (.tmp 115) = .slice (some ⟨gl, 0, none⟩) (N - (i + 1)) N ∧ a.eval (.tmp 116) = .int .i64 ((N - (i + 1) : Nat) : Int) ∧ a.eval (.tmp 117) = .int .i64 ((y2 : Nat) : Int) ∧ Below V.heap.size V W ∧ (BR 66 W F1 (.pointer (some ⟨g, 0, none⟩)) S1 g1) ∧ (W.ownsRow V.heap.size 3 1 (.slice (some ⟨gl, 0, none⟩) (N - (i + 1)) N) (N - (i + 1)) (intsL (N - (i + 1)) (fun j => ((ul (dg f N) (i + 1) j : Nat) : Int))))) (fun a _ => (N - (i + 1)) - (intOf (a.eval (.tmp 117))).toNat) ⟨0, Nat.zero_le _, A, t0, t3, t5, t6, t36, t37, t38, t115, t116, t117, BB, FR, FO⟩ ?_
            clear A t0 t3 t5 t6 t36 t37 t38 t115 t116 t117 BB FR FO a
            rintro a XL34 ⟨y2, hy2, A, t0, t3, t5, t6, t36, t37, t38, t115, t116, t117, BB, FR, FO⟩
            have esy2 := t117
            refine wp_seq ?_
            refine wi_ A (h10_ t0 t3 t5 t6 t36 t37 t38 t115 t116 t117) (rv_ 0 (.bool (decide (y2 < N - (i + 1)))) (fun a ee => execLtW (p := y2) (q := N - (i + 1)) rfl (ee _) (ee _)) (rf_ [(118, .bool (decide (y2 < N - (i + 1))))] (h10_ t0 t3 t5 t6 t36 t37 t38 t115 t116 t117) ?_))
            rintro a A ⟨t118, -⟩ ⟨t0, t3, t5, t6, t36, t37, t38, t115, t116, t117, -⟩
            refine wp_seq ?_
            by_cases lty2 : y2 < (N - (i + 1))
            · rw [decide_eq_true lty2] at t118
              refine wp_cond_true t118 ?_
              refine wp_skip ?_
              clear t118
              refine wp_seq ?_
              refine wp_block ?_
              have hge : ¬ ((ul (dg f N) (i + 1) y2 : Nat) : Int) < ((g1 : Nat) : Int) := fun w => by
                obtain ⟨j, h1, h2⟩ := hB2.out (ul (dg f N) (i + 1) y2) (by omega)
                exact ulg_new (f := f) (show i + 1 ≤ N by omega) lty2 h1 (Int.ofNat.inj h2).symm
              refine wp_seq ?_
              refine wi_ A (h10_ t0 t3 t5 t6 t36 t37 t38 t115 t116 t117) (rv_ 0 (.pointer (some ⟨gl, 0 + y2, none⟩)) (fun a ee => execIdxN (k := y2) rfl (ee _) (ee _) lty2) (rv_ 1 (.int .i64 ((ul (dg f N) (i + 1) y2 : Nat) : Int)) (fun a ee => execL20 rfl (Or.inl rfl) (ee _) (own_cellI FO lty2).1) (rf_ [(14, .int .i64 ((ul (dg f N) (i + 1) y2 : Nat) : Int))] (h10_ t0 t3 t5 t6 t36 t37 t38 t115 t116 t117) ?_)))
              rintro a A ⟨t14, -⟩ ⟨t0, t3, t5, t6, t36, t37, t38, t115, t116, t117, -⟩
              refine wp_seq ?_
              refine wi_ A (h11_ t0 t3 t5 t6 t36 t37 t38 t115 t116 t117 t14) (rv_ 2 (.bool false) (fun a ee => execDec (exIlss3 (p := ((ul (dg f N) (i + 1) y2 : Nat) : Int)) (q := ((g1 : Nat) : Int)) rfl (ee _) (ee _)) (decide_eq_false hge)) (rf_ [(123, .bool false)] (h10_ t0 t3 t5 t6 t36 t37 t38 t115 t116 t117) ?_))
              rintro a A ⟨t123, -⟩ ⟨t0, t3, t5, t6, t36, t37, t38, t115, t116, t117, -⟩
              refine wp_cond_false t123 ?_
              refine wp_skip ?_
              clear t123
              refine wi_ A (h10_ t0 t3 t5 t6 t36 t37 t38 t115 t116 t117) (rv_ 0 (.int .i64 ((y2 + 1 : Nat) : Int)) (fun a ee => execAd8 (p := y2) (q := 1) rfl (ee _) rfl (by omega)) (rf_ [(117, .int .i64 ((y2 + 1 : Nat) : Int))] (h9_ t0 t3 t5 t6 t36 t37 t38 t115 t116) ?_))
              rintro a A ⟨t117, -⟩ ⟨t0, t3, t5, t6, t36, t37, t38, t115, t116, -⟩
              exact ⟨⟨y2 + 1, lty2, A, t0, t3, t5, t6, t36, t37, t38, t115, t116, t117, BB, FR, FO⟩, by show (N - (i + 1)) - (intOf (a.eval (.tmp 117))).toNat < (N - (i + 1)) - (intOf (Act.eval _ (.tmp 117))).toNat; rw [t117, esy2]; show (N - (i + 1)) - (y2 + 1) < (N - (i + 1)) - y2; omega⟩
            rw [decide_eq_false lty2] at t118
            refine wp_cond_false t118 ?_
            refine wp_exit ?_
            first | with_reducible refine exit_in ?_ | with_reducible refine exit_then (exit_in ?_) | with_reducible refine exit_then (exit_then (exit_in ?_)) | refine exit_in ?_ | refine exit_then (exit_in ?_) | refine exit_then (exit_then (exit_in ?_))
            clear t118 esy2
            refine wi_ A (h10_ t0 t3 t5 t6 t36 t37 t38 t115 t116 t117) (rv_ 0 (.int .i64 ((i + 1 : Nat) : Int)) (fun a ee => execAd8 (p := i) (q := 1) rfl (ee _) rfl (by omega)) (rf_ [(38, .int .i64 ((i + 1 : Nat) : Int))] (h6_ t0 t3 t5 t6 t36 t37) ?_))
            rintro a A ⟨t38, -⟩ ⟨t0, t3, t5, t6, t36, t37, -⟩
            exact ⟨⟨i + 1, F1, S1, g1, lti, hB2, Fge1, Fgl1, hno2, A, t0, t3, t5, t6, t36, t37, t38, BB, FR, FO⟩, by show N - (intOf (a.eval (.tmp 38))).toNat < N - (intOf (Act.eval _ (.tmp 38))).toNat; rw [t38, esi]; show N - (i + 1) < N - i; omega⟩
          · refine wp_seq ?_
            refine wp_seq ?_
            refine wi_ A (h10_ t0 t3 t5 t6 t36 t37 t38 t7 t73 t74) (rc_ 1 (patI FR) (cb_ fun X31_1 bQ => ?_))
            replace FR := (FR.on bQ)
            replace FO := (ownD_below FO bQ)
            replace BB := BB.trans (bQ.mono BB.size)
            clear bQ
            refine rv_ 3 (.bool false) (fun a ee => execDec (exIneq3 (p := ((g1 : Nat) : Int)) (q := ((g1 : Nat) : Int)) rfl (ee _) (ee _)) (decide_eq_false (fun h => h (by omega)))) (rc_ 6 (pheldI FR) (cb_ fun X31 bQ => ?_))
            replace FR := (FR.on bQ)
            replace FO := (ownD_below FO bQ)
            replace BB := BB.trans (bQ.mono BB.size)
            clear bQ
            refine rv_ 8 (.int .i64 ((i + 1 : Nat) : Int)) (fun a ee => execAd8 (p := i) (q := 1) rfl (ee _) rfl (by omega)) (rv_ 10 (.int .i64 ((i + 1 - g1 : Nat) : Int)) (fun a ee => By8.execSubI (p := i + 1) (q := g1) rfl (ee _) (ee _) (by omega) (by omega)) (rv_ 11 (.bool false) (fun a ee => execDec (exIneq3 (p := ((S1.length : Nat) : Int)) (q := ((i + 1 - g1 : Nat) : Int)) rfl (ee _) (ee _)) (decide_eq_false (fun h => h (by omega)))) (rv_ 16 (.int .i64 ((N : Nat) : Int)) (fun a ee => execLenI (len := N) rfl (ee _) hv.shp) (rv_ 17 (.bool false) (fun a ee => execDec (exIlss3 (p := ((g1 : Nat) : Int)) (q := ((N : Nat) : Int)) rfl (ee _) (ee _)) (decide_eq_false (by omega))) (rf_ [(114, .bool false)] (h8_ t0 t3 t5 t6 t7 t36 t37 t38) ?_)))))
            rintro a A ⟨t114, -⟩ ⟨t0, t3, t5, t6, t7, t36, t37, t38, -⟩
            refine wp_cond_false t114 ?_
            refine wp_skip ?_
            clear t114
            refine wp_seq ?_
            refine wi_ A (h8_ t0 t3 t5 t6 t7 t36 t37 t38) (rv_ 1 (.int .i64 ((N - (i + 1) : Nat) : Int)) (fun a ee => execLenI (len := N - (i + 1)) rfl (ee _) ⟨_, _, rfl⟩) (rf_ [(115, .slice (some ⟨gl, 0, none⟩) (N - (i + 1)) N), (116, .int .i64 ((N - (i + 1) : Nat) : Int)), (117, .int .i64 ((0 : Nat) : Int))] (h7_ t0 t3 t5 t6 t36 t37 t38) ?_))
            rintro a A ⟨t115, t116, t117, -⟩ ⟨t0, t3, t5, t6, t36, t37, t38, -⟩
            refine wp_block ?_
            refine wp_loop (fun a W => ∃ (y2 : Nat), y2 ≤ (N - (i + 1)) ∧ (a.tmps.size = 135 ∧ a.defers = []) ∧ a.eval (.tmp 0) = lv ∧ a.eval (.tmp 3) = .slice (some ⟨gl, 0, none⟩) (N - (i + 1)) N ∧ a.eval (.tmp 5) = .pointer (some ⟨g, 0, none⟩) ∧ a.eval (.tmp 6) = .int .i64 ((g1 : Nat) : Int) ∧ a.eval (.tmp 36) = lv ∧ a.eval (.tmp 37) = .int .i64 ((N : Nat) : Int) ∧ a.eval (.tmp 38) = .int .i64 ((i : Nat) : Int) ∧ a.eval (.tmp 115) = .slice (some ⟨gl, 0, none⟩) (N - (i + 1)) N ∧ a.eval (.tmp 116) = .int .i64 ((N - (i + 1) : Nat) : Int) ∧ a.eval (.tmp 117) = .int .i64 ((y2 : Nat) : Int) ∧ Below V.heap.size V W ∧ (BR 66 W F1 (.pointer (some ⟨g, 0, none⟩)) S1 g1) ∧ (W.ownsRow V.heap.size 3 1 (.slice (some ⟨gl, 0, none⟩) (N - (i + 1)) N) (N - (i + 1)) (intsL (N - (i + 1)) (fun j => ((ul (dg f N) (i + 1) j : Nat) : Int))))) (fun a _ => (N - (i + 1)) - (intOf (a.eval (.tmp 117))).toNat) ⟨0, Nat.zero_le _, A, t0, t3, t5, t6, t36, t37, t38, t115, t116, t117, BB, FR, FO⟩ ?_
            clear A t0 t3 t5 t6 t36 t37 t38 t115 t116 t117 BB FR FO a
            rintro a XL34 ⟨y2, hy2, A, t0, t3, t5, t6, t36, t37, t38, t115, t116, t117, BB, FR, FO⟩
            have esy2 := t117
            refine wp_seq ?_
            refine wi_ A (h10_ t0 t3 t5 t6 t36 t37 t38 t115 t116 t117) (rv_ 0 (.bool (decide (y2 < N - (i + 1)))) (fun a ee => execLtW (p := y2) (q := N - (i + 1)) rfl (ee _) (ee _)) (rf_ [(118, .bool (decide (y2 < N - (i + 1))))] (h10_ t0 t3 t5 t6 t36 t37 t38 t115 t116 t117) ?_))
            rintro a A ⟨t118, -⟩ ⟨t0, t3, t5, t6, t36, t37, t38, t115, t116, t117, -⟩
            refine wp_seq ?_
            by_cases lty2 : y2 < (N - (i + 1))
            · rw [decide_eq_true lty2] at t118
              refine wp_cond_true t118 ?_
              refine wp_skip ?_
              clear t118
              refine wp_seq ?_
              refine wp_block ?_
              have hge : ¬ ((ul (dg f N) (i + 1) y2 : Nat) : Int) < ((g1 : Nat) : Int) := fun w => by
                obtain ⟨j, h1, h2⟩ := hB2.out (ul (dg f N) (i + 1) y2) (by omega)
                exact ulg_new (f := f) (show i + 1 ≤ N by omega) lty2 h1 (Int.ofNat.inj h2).symm
              refine wp_seq ?_
              refine wi_ A (h10_ t0 t3 t5 t6 t36 t37 t38 t115 t116 t117) (rv_ 0 (.pointer (some ⟨gl, 0 + y2, none⟩)) (fun a ee => execIdxN (k := y2) rfl (ee _) (ee _) lty2) (rv_ 1 (.int .i64 ((ul (dg f N) (i + 1) y2 : Nat) : Int)) (fun a ee => execL20 rfl (Or.inl rfl) (ee _) (own_cellI FO lty2).1) (rf_ [(14, .int .i64 ((ul (dg f N) (i + 1) y2 : Nat) : Int))] (h10_ t0 t3 t5 t6 t36 t37 t38 t115 t116 t117) ?_)))
              rintro a A ⟨t14, -⟩ ⟨t0, t3, t5, t6, t36, t37, t38, t115, t116, t117, -⟩
              refine wp_seq ?_
              refine wi_ A (h11_ t0 t3 t5 t6 t36 t37 t38 t115 t116 t117 t14) (rv_ 2 (.bool false) (fun a ee => execDec (exIlss3 (p := ((ul (dg f N) (i + 1) y2 : Nat) : Int)) (q := ((g1 : Nat) : Int)) rfl (ee _) (ee _)) (decide_eq_false hge)) (rf_ [(123, .bool false)] (h10_ t0 t3 t5 t6 t36 t37 t38 t115 t116 t117) ?_))
              rintro a A ⟨t123, -⟩ ⟨t0, t3, t5, t6, t36, t37, t38, t115, t116, t117, -⟩
              refine wp_cond_false t123 ?_
              refine wp_skip ?_
              clear t123
              refine wi_ A (h10_ t0 t3 t5 t6 t36 t37 t38 t115 t116 t117) (rv_ 0 (.int .i64 ((y2 + 1 : Nat) : Int)) (fun a ee => execAd8 (p := y2) (q := 1) rfl (ee _) rfl (by omega)) (rf_ [(117, .int .i64 ((y2 + 1 : Nat) : Int))] (h9_ t0 t3 t5 t6 t36 t37 t38 t115 t116) ?_))
              rintro a A ⟨t117, -⟩ ⟨t0, t3, t5, t6, t36, t37, t38, t115, t116, -⟩
              exact ⟨⟨y2 + 1, lty2, A, t0, t3, t5, t6, t36, t37, t38, t115, t116, t117, BB, FR, FO⟩, by show (N - (i + 1)) - (intOf (a.eval (.tmp 117))).toNat < (N - (i + 1)) - (intOf (Act.eval _ (.tmp 117))).toNat; rw [t117, esy2]; show (N - (i + 1)) - (y2 + 1) < (N - (i + 1)) - y2; omega⟩
            rw [decide_eq_false lty2] at t118
            refine wp_cond_false t118 ?_
            refine wp_exit ?_
            first | with_reducible refine exit_in ?_ | with_reducible refine exit_then (exit_in ?_) | with_reducible refine exit_then (exit_then (exit_in ?_)) | refine exit_in ?_ | refine exit_then (exit_in ?_) | refine exit_then (exit_then (exit_in ?_))
            clear t118 esy2
            refine wi_ A (h10_ t0 t3 t5 t6 t36 t37 t38 t115 t116 t117) (rv_ 0 (.int .i64 ((i + 1 : Nat) : Int)) (fun a ee => execAd8 (p := i) (q := 1) rfl (ee _) rfl (by omega)) (rf_ [(38, .int .i64 ((i + 1 : Nat) : Int))] (h6_ t0 t3 t5 t6 t36 t37) ?_))
            rintro a A ⟨t38, -⟩ ⟨t0, t3, t5, t6, t36, t37, -⟩
            exact ⟨⟨i + 1, F1, S1, g1, lti, hB2, Fge1, Fgl1, hno2, A, t0, t3, t5, t6, t36, t37, t38, BB, FR, FO⟩, by show N - (intOf (a.eval (.tmp 38))).toNat < N - (intOf (Act.eval _ (.tmp 38))).toNat; rw [t38, esi]; show N - (i + 1) < N - i; omega⟩
      rw [decide_eq_false lty] at t75
      refine wp_cond_false t75 ?_
      refine wp_exit ?_
      first | with_reducible refine exit_in ?_ | with_reducible refine exit_then (exit_in ?_) | with_reducible refine exit_then (exit_then (exit_in ?_)) | refine exit_in ?_ | refine exit_then (exit_in ?_) | refine exit_then (exit_then (exit_in ?_))
      clear t75 esy
      have hlen := hB2.len
      omega
    rw [decide_eq_false lti] at t39
    refine wp_cond_false t39 ?_
    refine wp_exit ?_
    first | with_reducible refine exit_in ?_ | with_reducible refine exit_then (exit_in ?_) | with_reducible refine exit_then (exit_then (exit_in ?_)) | refine exit_in ?_ | refine exit_then (exit_in ?_) | refine exit_then (exit_then (exit_in ?_))
    clear t39 esi
    obtain rfl : N = i := by omega
    have hlen := hB.len
    have hgv : gv = N := by
      refine Classical.byContradiction fun w => ?_
      obtain ⟨j, h1, h2⟩ := surj (unr_isP (dg_all (f := f) (N := N))) gv (by omega)
      exact hno j h1 (by show ((unr (dg f N) j : Nat) : Int) = _; rw [h2])
    refine wp_seq ?_
    refine wi_ A (h7_ t0 t3 t5 t6 t36 t37 t38) (rv_ 2 (.int .i64 ((N : Nat) : Int)) (fun a ee => execLenI (len := N) rfl (ee _) hv.shp) (rv_ 3 (.bool true) (fun a ee => execDec (exIeql3 (p := ((gv : Nat) : Int)) (q := ((N : Nat) : Int)) rfl (ee _) (ee _)) (decide_eq_true (by omega))) (rc_ 6 (pheldI FR) (cb_ fun X40 bQ => ?_))))
    replace FR := (FR.on bQ)
    replace FO := (ownD_below FO bQ)
    replace BB := BB.trans (bQ.mono BB.size)
    clear bQ
    refine rv_ 7 (.bool true) (fun a ee => execDec (exIeql3 (p := ((S.length : Nat) : Int)) (q := 0) rfl (ee _) rfl) (decide_eq_true (by omega))) (rg_ [(2, .bool true)] ?_)
    rintro a A ⟨t2, -⟩
    refine wp_ret ?_
    refine bodyPost_ret (results_tmp rfl _ _ _) A.2 ⟨?_, BB⟩
    show Ending.returned (a.eval (.tmp 2)) = _
    rw [t2]
end Go.Proofs.Ytnfokemikcigbaa.Ord
