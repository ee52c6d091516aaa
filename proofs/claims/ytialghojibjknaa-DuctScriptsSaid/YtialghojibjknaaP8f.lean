import Derived.Test.YtialghojibjknaaP8e
import Derived.WalkKit
namespace Go.Proofs.Ytialghojibjknaa.Duc
open Go.RowKit Gf8 Aes By8 Cel Cf Win Drw Prm
/- One call of a duct, beside the document's. Written by tools/mkP8f.py. -/

section
variable {I : ImplI} {V X : World} {F F' : Nat → Prop} {v r : Value} {z : Nat → Int} {n k : Nat} {c : Bool} {x : Int}
theorem putI_t (h : I.R V F v (zI z) n k false) (hx : I64 x) (hq : n < k) : Calls Try.prog 20 #[v, .int .i64 x] V fun e w' => ∃ F', e = .returned (.tuple #[.bool true, .int .i64 ((0 : Nat) : Int)]) ∧ I.R w' F' v (zI (up z n x)) (n + 1) k false ∧ Saved F V w' ∧ ∀ q, F' q → F q ∨ V.heap.size ≤ q :=
  (I.put_t h ⟨x, rfl, hx⟩ ⟨rfl, hq⟩).mono fun _ _ ⟨F', he, hR, hs, hf⟩ => ⟨F', he, I.cg hR (fun j _ => zI_up z n x j), hs, hf⟩
theorem putI_f (h : I.R V F v (zI z) n k false) (hx : I64 x) (hq : ¬ n < k) : Calls Try.prog 20 #[v, .int .i64 x] V fun e w' => ∃ F', e = .returned (.tuple #[.bool false, .int .i64 ((0 : Nat) : Int)]) ∧ I.R w' F' v (zI z) n k false ∧ Saved F V w' ∧ ∀ q, F' q → F q ∨ V.heap.size ≤ q := I.put_f h ⟨x, rfl, hx⟩ hq
theorem putI_c (h : I.R V F v (zI z) n k true) (hx : I64 x) : Calls Try.prog 20 #[v, .int .i64 x] V fun e w' => ∃ F', e = .returned (.tuple #[.bool false, .int .i64 ((180 : Nat) : Int)]) ∧ I.R w' F' v (zI z) n k true ∧ Saved F V w' ∧ ∀ q, F' q → F q ∨ V.heap.size ≤ q := I.put_c h ⟨x, rfl, hx⟩
theorem takeI_o (h : I.R V F v (zI z) n k c) (hn : 0 < n) : Calls Try.prog 21 #[v] V fun e w' => ∃ F', e = .returned (.tuple #[.int .i64 (z 0), .bool true, .int .i64 ((0 : Nat) : Int)]) ∧ I.R w' F' v (zI fun j => z (j + 1)) (n - 1) k c ∧ Saved F V w' ∧ ∀ q, F' q → F q ∨ V.heap.size ≤ q := I.take_o h hn
theorem takeI_e (h : I.R V F v (zI z) n k false) (hn : n = 0) : Calls Try.prog 21 #[v] V fun e w' => ∃ F', e = .returned (.tuple #[.int .i64 ((0 : Nat) : Int), .bool false, .int .i64 ((0 : Nat) : Int)]) ∧ I.R w' F' v (zI z) n k false ∧ Saved F V w' ∧ ∀ q, F' q → F q ∨ V.heap.size ≤ q := I.take_e h hn
theorem takeI_c (h : I.R V F v (zI z) n k true) (hn : n = 0) : Calls Try.prog 21 #[v] V fun e w' => ∃ F', e = .returned (.tuple #[.int .i64 ((0 : Nat) : Int), .bool false, .int .i64 ((180 : Nat) : Int)]) ∧ I.R w' F' v (zI z) n k true ∧ Saved F V w' ∧ ∀ q, F' q → F q ∨ V.heap.size ≤ q := I.take_c h hn
theorem closeI_o (h : I.R V F v (zI z) n k false) : Calls Try.prog 25 #[v] V fun e w' => ∃ F', e = .returned (.int .i64 ((0 : Nat) : Int)) ∧ I.R w' F' v (zI z) n k true ∧ Saved F V w' ∧ ∀ q, F' q → F q ∨ V.heap.size ≤ q := I.close h
theorem closeI_c (h : I.R V F v (zI z) n k true) : Calls Try.prog 25 #[v] V fun e w' => ∃ F', e = .returned (.int .i64 ((180 : Nat) : Int)) ∧ I.R w' F' v (zI z) n k true ∧ Saved F V w' ∧ ∀ q, F' q → F q ∨ V.heap.size ≤ q := I.close h
theorem fo_then {g : Nat} {c : Obj} (ho : ¬ F g) (hg : X.heap[g]? = some c) (hf : ∀ q, F' q → F q ∨ X.heap.size ≤ q) : ¬ F' g := fun h => (hf g h).elim ho (fun q => Nat.not_lt.2 q (Array.getElem?_eq_some_iff.1 hg).1)
theorem row_off {B t s m : Nat} {xs : List Value} (own : X.ownsRow B t s r m xs) (hr : ∀ g, r.ownBlock = some g → ¬ F g) (hf : ∀ q, F' q → F q ∨ X.heap.size ≤ q) : ∀ g, r.ownBlock = some g → ¬ F' g := fun g hg h => (hf g h).elim (hr g hg) (fun q => Nat.not_lt.2 q (own.lt g hg).2)
end
set_option maxRecDepth 100000 in
set_option maxHeartbeats 4000000 in
/-- One call. -/
theorem ply_pc (I : ImplI) (v r : Value) (F : Nat → Prop) (n k : Nat) (z : Nat → Int) (kd d x : Int) (U V : World) (hUV : Below U.heap.size U V) (hR : I.R V F v (zI z) n k true) (own : V.ownsRow U.heap.size 3 1 r n (intsL n z)) (hF : ∀ q, F q → U.heap.size ≤ q) (hr : ∀ g, r.ownBlock = some g → ¬ F g) (hz : ∀ j, j < n → I64 (z j)) (hk : kd = 1) (hx : I64 x) :
    Calls Try.prog 9 #[v, .agg (dC r ((k : Nat) : Int) true), .agg (xC kd d x)] V fun e w' => Plyd I U V F v r k e w' ∧ Below U.heap.size U w' := by
  go_enter Try.func9, Try.ntmps9
  refine wo_ 97 [(0, v), (1, .agg (dC r ((k : Nat) : Int) true)), (2, .agg (xC kd d x))] ?_
  rintro a A ⟨t0, t1, t2, -⟩
  have BB := hUV
  have FR := hR
  have FO := own
  have FXs := Saved.refl F V
  refine wp_seq ?_
  obtain ⟨g4, egg4⟩ : ∃ z_ : Nat, V.heap.size = z_ := ⟨_, rfl⟩
  refine wi_ A (h3_ t0 t1 t2) (rs_ 0 (fun a ee => ?_))
  refine stepV rfl rfl (execBxD rfl (ee _) (own_slq FO)) ⟨.pointer (some ⟨g4, 0, none⟩), ⟨_, rfl, by subst egg4; rfl⟩, fun X0_1 hX => ?_⟩
  have bQ : Below V.heap.size V X0_1 := by subst hX egg4; exact (belNew V _)
  have Fg4 : (X0_1.heap[g4]? = some (.cells (dC r ((k : Nat) : Int) true) 32)) := by subst hX egg4; exact heapNew V _
  have Fgeg4 : (V.heap.size ≤ g4) := by subst hX egg4; exact FXs.size
  have Fog4 : (¬ F g4) := by subst hX egg4; exact ge_off FR (Nat.le_refl _)
  replace FR := (I.on FR bQ)
  replace FO := (ownD_below FO bQ)
  replace FXs := (sv_on FXs bQ)
  replace BB := BB.trans (bQ.mono BB.size)
  clear bQ hX egg4 ee a
  obtain ⟨g5, egg5⟩ : ∃ z_ : Nat, X0_1.heap.size = z_ := ⟨_, rfl⟩
  refine rs_ 1 (fun a ee => ?_)
  refine stepV rfl rfl (execBxX rfl (ee _)) ⟨.pointer (some ⟨g5, 0, none⟩), ⟨_, rfl, by subst egg5; rfl⟩, fun X0_2 hX => ?_⟩
  have bQ : Below X0_1.heap.size X0_1 X0_2 := by subst hX egg5; exact (belNew X0_1 _)
  have Fg5 : (X0_2.heap[g5]? = some (.cells (xC kd d x) 34)) := by subst hX egg5; exact heapNew X0_1 _
  have Fgeg5 : (V.heap.size ≤ g5) := by subst hX egg5; exact FXs.size
  have Fog5 : (¬ F g5) := by subst hX egg5; exact ge_off FR (Nat.le_refl _)
  replace FR := (I.on FR bQ)
  replace FO := (ownD_below FO bQ)
  replace FXs := (sv_on FXs bQ)
  replace Fg4 := (on9 Fg4 bQ)
  replace BB := BB.trans (bQ.mono BB.size)
  clear bQ hX egg5 ee a
  obtain ⟨g6, egg6⟩ : ∃ z_ : Nat, X0_2.heap.size = z_ := ⟨_, rfl⟩
  refine rs_ 2 (fun a ee => ?_)
  refine stepV rfl rfl (execAlD rfl) ⟨.pointer (some ⟨g6, 0, none⟩), ⟨_, rfl, by subst egg6; rfl⟩, fun X0 hX => ?_⟩
  have bQ : Below X0_2.heap.size X0_2 X0 := by subst hX egg6; exact (belNew X0_2 _)
  have Fg6 : (X0.heap[g6]? = some (.cells (dC (.slice none 0 0) 0 false) 32)) := by subst hX egg6; exact heapNew X0_2 _
  have Fgeg6 : (V.heap.size ≤ g6) := by subst hX egg6; exact FXs.size
  have Fog6 : (¬ F g6) := by subst hX egg6; exact ge_off FR (Nat.le_refl _)
  have Fng6g4 : (g4 ≠ g6) := by subst hX egg6; exact Nat.ne_of_lt (Array.getElem?_eq_some_iff.1 Fg4).1
  replace FR := (I.on FR bQ)
  replace FO := (ownD_below FO bQ)
  replace FXs := (sv_on FXs bQ)
  replace Fg4 := (on9 Fg4 bQ)
  replace Fg5 := (on9 Fg5 bQ)
  replace BB := BB.trans (bQ.mono BB.size)
  clear bQ hX egg6 ee a
  refine rf_ [(4, .pointer (some ⟨g4, 0, none⟩)), (5, .pointer (some ⟨g5, 0, none⟩)), (6, .pointer (some ⟨g6, 0, none⟩))] (h1_ t0) ?_
  rintro a A ⟨t4, t5, t6, -⟩ ⟨t0, -⟩
  refine wp_seq ?_
  refine wp_seq ?_
  refine wi_ A (h4_ t0 t4 t5 t6) (rv_ 0 (.pointer (some ⟨g5, 0, none⟩)) (fun a ee => execFx0 rfl (ee _)) (rv_ 1 (.int .i64 kd) (fun a ee => execLd1 rfl (Or.inr (Or.inl rfl)) (ee _) (xC_at Fg5).1) (rf_ [(24, .int .i64 kd)] (h4_ t0 t4 t5 t6) ?_)))
  rintro a A ⟨t24, -⟩ ⟨t0, t4, t5, t6, -⟩
  refine wp_block ?_
  refine wp_seq ?_
  refine wi_ A (h5_ t0 t4 t5 t6 t24) (rv_ 0 (.bool true) (fun a ee => execDec (exIeql3 (p := kd) (q := 1) rfl (ee _) rfl) (decide_eq_true hk)) (rf_ [(25, .bool true)] (h5_ t0 t4 t5 t6 t24) ?_))
  rintro a A ⟨t25, -⟩ ⟨t0, t4, t5, t6, t24, -⟩
  refine wp_cond_true t25 ?_
  clear t25
  refine wp_seq ?_
  refine wi_ A (h5_ t0 t4 t5 t6 t24) (rv_ 1 (.pointer (some ⟨g5, 0 + 2, none⟩)) (fun a ee => execFx2 rfl (ee _)) (rv_ 2 (.int .i64 x) (fun a ee => execLd1 rfl (Or.inr (Or.inl rfl)) (ee _) (xC_at Fg5).2.2) (rc_ 3 (putI_c FR hx) fun e X3 hh => ?_)))
  obtain ⟨fp1, he, hk, hs, hf⟩ := hh
  refine ⟨_, he, ?_⟩
  obtain ⟨BB, FO, Fg4, Fg5, Fg6, FR1, FS1, Fsub, Frf, Fpg4, Fpg5, Fpg6⟩ : Below U.heap.size U X3 ∧ (X3.ownsRow U.heap.size 3 1 r n (intsL n z)) ∧ (X3.heap[g4]? = some (.cells (dC r ((k : Nat) : Int) true) 32)) ∧ (X3.heap[g5]? = some (.cells (xC kd d x) 34)) ∧ (X3.heap[g6]? = some (.cells (dC (.slice none 0 0) 0 false) 32)) ∧ (I.R X3 fp1 v (zI z) n k true) ∧ (Saved F V X3) ∧ (∀ q, fp1 q → F q ∨ V.heap.size ≤ q) ∧ (∀ g, r.ownBlock = some g → ¬ fp1 g) ∧ (¬ fp1 g4) ∧ (¬ fp1 g5) ∧ (¬ fp1 g6) := ⟨sv_below BB hs hF, (own_saved18 FO hs hr), (bk_saved Fg4 hs Fog4), (bk_saved Fg5 hs Fog5), (bk_saved Fg6 hs Fog6), hk, sv_then FXs hs, fp_then FXs hf, row_off FO hr hf, fo_then Fog4 Fg4 hf, fo_then Fog5 Fg5 hf, fo_then Fog6 Fg6 hf⟩
  clear FR FXs
  refine rf_ [(8, .bool false), (9, .int .i64 ((180 : Nat) : Int))] (h4_ t0 t4 t5 t6) ?_
  rintro a A ⟨t8, t9, -⟩ ⟨t0, t4, t5, t6, -⟩
  refine wp_seq ?_
  refine wi_ A (h6_ t0 t4 t5 t6 t8 t9) (rv_ 0 (.agg (dC r ((k : Nat) : Int) true)) (fun a ee => execLdD rfl (ee _) Fg4) (rv_ 1 (.pointer (some ⟨g5, 0 + 2, none⟩)) (fun a ee => execFx2 rfl (ee _)) (rv_ 2 (.int .i64 x) (fun a ee => execLd1 rfl (Or.inr (Or.inl rfl)) (ee _) (xC_at Fg5).2.2) (rc_ 3 (rput_c r x ((k : Nat) : Int) n U.heap.size z X3 FO) (cb_ fun X4_1 bQ => ?_)))))
  replace FO := (ownD_below FO bQ)
  replace Fg4 := (on9 Fg4 bQ)
  replace Fg5 := (on9 Fg5 bQ)
  replace Fg6 := (on9 Fg6 bQ)
  replace FR1 := (I.on FR1 bQ)
  replace FS1 := (sv_on FS1 bQ)
  replace BB := BB.trans (bQ.mono BB.size)
  clear bQ
  obtain ⟨g10, egg10⟩ : ∃ z_ : Nat, X4_1.heap.size = z_ := ⟨_, rfl⟩
  refine rs_ 8 (fun a ee => ?_)
  refine stepV rfl rfl (execAlD rfl) ⟨.pointer (some ⟨g10, 0, none⟩), ⟨_, rfl, by subst egg10; rfl⟩, fun X4_2 hX => ?_⟩
  have bQ : Below X4_1.heap.size X4_1 X4_2 := by subst hX egg10; exact (belNew X4_1 _)
  have Fg10 : (X4_2.heap[g10]? = some (.cells (dC (.slice none 0 0) 0 false) 32)) := by subst hX egg10; exact heapNew X4_1 _
  have Fgeg10 : (V.heap.size ≤ g10) := by subst hX egg10; exact FS1.size
  have Fpg10 : (¬ fp1 g10) := by subst hX egg10; exact ge_off FR1 (Nat.le_refl _)
  have Fng10g4 : (g4 ≠ g10) := by subst hX egg10; exact Nat.ne_of_lt (Array.getElem?_eq_some_iff.1 Fg4).1
  have Fng10g6 : (g6 ≠ g10) := by subst hX egg10; exact Nat.ne_of_lt (Array.getElem?_eq_some_iff.1 Fg6).1
  replace FO := (ownD_below FO bQ)
  replace Fg4 := (on9 Fg4 bQ)
  replace Fg5 := (on9 Fg5 bQ)
  replace Fg6 := (on9 Fg6 bQ)
  replace FR1 := (I.on FR1 bQ)
  replace FS1 := (sv_on FS1 bQ)
  replace BB := BB.trans (bQ.mono BB.size)
  clear bQ hX egg10 ee a
  refine rs_ 9 (fun a ee => ?_)
  refine stepS rfl rfl (execStD rfl (ee _) (ee _) Fg10 (own_slq FO)) ⟨_, ⟨_, rfl, rfl⟩, fun X4 hX => ?_⟩
  obtain ⟨BB, FO, Fg4, Fg5, Fg6, FR1, FS1, Fg10s1⟩ : Below U.heap.size U X4 ∧ (X4.ownsRow U.heap.size 3 1 r n (intsL n z)) ∧ (X4.heap[g4]? = some (.cells (dC r ((k : Nat) : Int) true) 32)) ∧ (X4.heap[g5]? = some (.cells (xC kd d x) 34)) ∧ (X4.heap[g6]? = some (.cells (dC (.slice none 0 0) 0 false) 32)) ∧ (I.R X4 fp1 v (zI z) n k true) ∧ (Saved F V X4) ∧ (X4.heap[g10]? = some (.cells (dC r ((k : Nat) : Int) true) 32)) := by subst hX; exact ⟨below4 BB (Nat.le_trans hUV.size Fgeg10) _, (ownG_T FO Fg10 (by decide) grR18), (by rw [setRow_other _ _ _ _ Fng10g4]; exact Fg4), (keepT Fg5 Fg10 (by decide) grR18), (by rw [setRow_other _ _ _ _ Fng10g6]; exact Fg6), (dr_row FR1 Fpg10 _), (sv_row FS1 Fgeg10 _), setRow_heap _ _ _ _ _ _ Fg10⟩
  clear Fg10 hX ee a
  refine rf_ [(10, .pointer (some ⟨g10, 0, none⟩)), (11, .bool false), (12, .int .i64 ((180 : Nat) : Int))] (h3_ t6 t8 t9) ?_
  rintro a A ⟨t10, t11, t12, -⟩ ⟨t6, t8, t9, -⟩
  refine wp_seq ?_
  refine wi_ A (h6_ t6 t10 t8 t9 t11 t12) (rv_ 0 (.agg (dC r ((k : Nat) : Int) true)) (fun a ee => execLdD rfl (ee _) Fg10s1) (rv_ 3 (.bool true) (fun a ee => execEqBB (b := false) rfl (ee _) (ee _)) (rv_ 7 (.bool true) (fun a ee => execDec (exIeql3 (p := ((180 : Nat) : Int)) (q := ((180 : Nat) : Int)) rfl (ee _) (ee _)) (decide_eq_true rfl)) (rs_ 9 (fun a ee => ?_)))))
  refine stepS rfl rfl (execStD rfl (ee _) (ee _) Fg6 (own_slq FO)) ⟨_, ⟨_, rfl, rfl⟩, fun X5 hX => ?_⟩
  obtain ⟨BB, FO, Fg4, Fg5, FR1, FS1, Fg10s1, Fg6s2⟩ : Below U.heap.size U X5 ∧ (X5.ownsRow U.heap.size 3 1 r n (intsL n z)) ∧ (X5.heap[g4]? = some (.cells (dC r ((k : Nat) : Int) true) 32)) ∧ (X5.heap[g5]? = some (.cells (xC kd d x) 34)) ∧ (I.R X5 fp1 v (zI z) n k true) ∧ (Saved F V X5) ∧ (X5.heap[g10]? = some (.cells (dC r ((k : Nat) : Int) true) 32)) ∧ (X5.heap[g6]? = some (.cells (dC r ((k : Nat) : Int) true) 32)) := by subst hX; exact ⟨below4 BB (Nat.le_trans hUV.size Fgeg6) _, (ownG_T FO Fg6 (by decide) grR18), (by rw [setRow_other _ _ _ _ Fng6g4]; exact Fg4), (keepT Fg5 Fg6 (by decide) grR18), (dr_row FR1 Fpg6 _), (sv_row FS1 Fgeg6 _), (by rw [setRow_other _ _ _ _ (Ne.symm Fng10g6)]; exact Fg10s1), setRow_heap _ _ _ _ _ _ Fg6⟩
  clear Fg6 hX ee a
  refine rf_ [(7, .bool true)] (h1_ t6) ?_
  rintro a A ⟨t7, -⟩ ⟨t6, -⟩
  refine wp_ret ?_
  repeat (first | with_reducible refine ret_in ?_ | with_reducible refine ret_then ?_)
  refine bodyPost_ret (res_c1 _ _ g6 32 _ (0, 0) _ Try.results9 t6 Fg6s2 Try.underlying32 rfl (sizeD _ _ _)) A.2 ⟨⟨fp1, r, z, n, true, ?_, ⟨FR1, FO⟩, hz, Frf, fun g hg => Or.inl hg, Fsub, FS1⟩, BB⟩
  show Ending.returned (.tuple #[.agg (dC r ((k : Nat) : Int) true), a.eval (.tmp 7)]) = _
  rw [t7]
set_option maxRecDepth 100000 in
set_option maxHeartbeats 4000000 in
/-- One call. -/
theorem ply_pf (I : ImplI) (v r : Value) (F : Nat → Prop) (n k : Nat) (z : Nat → Int) (kd d x : Int) (U V : World) (hUV : Below U.heap.size U V) (hR : I.R V F v (zI z) n k false) (own : V.ownsRow U.heap.size 3 1 r n (intsL n z)) (hF : ∀ q, F q → U.heap.size ≤ q) (hr : ∀ g, r.ownBlock = some g → ¬ F g) (hz : ∀ j, j < n → I64 (z j)) (hk : kd = 1) (hx : I64 x) (hf : ¬ n < k) :
    Calls Try.prog 9 #[v, .agg (dC r ((k : Nat) : Int) false), .agg (xC kd d x)] V fun e w' => Plyd I U V F v r k e w' ∧ Below U.heap.size U w' := by
  go_enter Try.func9, Try.ntmps9
  refine wo_ 97 [(0, v), (1, .agg (dC r ((k : Nat) : Int) false)), (2, .agg (xC kd d x))] ?_
  rintro a A ⟨t0, t1, t2, -⟩
  have BB := hUV
  have FR := hR
  have FO := own
  have FXs := Saved.refl F V
  refine wp_seq ?_
  obtain ⟨g4, egg4⟩ : ∃ z_ : Nat, V.heap.size = z_ := ⟨_, rfl⟩
  refine wi_ A (h3_ t0 t1 t2) (rs_ 0 (fun a ee => ?_))
  refine stepV rfl rfl (execBxD rfl (ee _) (own_slq FO)) ⟨.pointer (some ⟨g4, 0, none⟩), ⟨_, rfl, by subst egg4; rfl⟩, fun X0_1 hX => ?_⟩
  have bQ : Below V.heap.size V X0_1 := by subst hX egg4; exact (belNew V _)
  have Fg4 : (X0_1.heap[g4]? = some (.cells (dC r ((k : Nat) : Int) false) 32)) := by subst hX egg4; exact heapNew V _
  have Fgeg4 : (V.heap.size ≤ g4) := by subst hX egg4; exact FXs.size
  have Fog4 : (¬ F g4) := by subst hX egg4; exact ge_off FR (Nat.le_refl _)
  replace FR := (I.on FR bQ)
  replace FO := (ownD_below FO bQ)
  replace FXs := (sv_on FXs bQ)
  replace BB := BB.trans (bQ.mono BB.size)
  clear bQ hX egg4 ee a
  obtain ⟨g5, egg5⟩ : ∃ z_ : Nat, X0_1.heap.size = z_ := ⟨_, rfl⟩
  refine rs_ 1 (fun a ee => ?_)
  refine stepV rfl rfl (execBxX rfl (ee _)) ⟨.pointer (some ⟨g5, 0, none⟩), ⟨_, rfl, by subst egg5; rfl⟩, fun X0_2 hX => ?_⟩
  have bQ : Below X0_1.heap.size X0_1 X0_2 := by subst hX egg5; exact (belNew X0_1 _)
  have Fg5 : (X0_2.heap[g5]? = some (.cells (xC kd d x) 34)) := by subst hX egg5; exact heapNew X0_1 _
  have Fgeg5 : (V.heap.size ≤ g5) := by subst hX egg5; exact FXs.size
  have Fog5 : (¬ F g5) := by subst hX egg5; exact ge_off FR (Nat.le_refl _)
  replace FR := (I.on FR bQ)
  replace FO := (ownD_below FO bQ)
  replace FXs := (sv_on FXs bQ)
  replace Fg4 := (on9 Fg4 bQ)
  replace BB := BB.trans (bQ.mono BB.size)
  clear bQ hX egg5 ee a
  obtain ⟨g6, egg6⟩ : ∃ z_ : Nat, X0_2.heap.size = z_ := ⟨_, rfl⟩
  refine rs_ 2 (fun a ee => ?_)
  refine stepV rfl rfl (execAlD rfl) ⟨.pointer (some ⟨g6, 0, none⟩), ⟨_, rfl, by subst egg6; rfl⟩, fun X0 hX => ?_⟩
  have bQ : Below X0_2.heap.size X0_2 X0 := by subst hX egg6; exact (belNew X0_2 _)
  have Fg6 : (X0.heap[g6]? = some (.cells (dC (.slice none 0 0) 0 false) 32)) := by subst hX egg6; exact heapNew X0_2 _
  have Fgeg6 : (V.heap.size ≤ g6) := by subst hX egg6; exact FXs.size
  have Fog6 : (¬ F g6) := by subst hX egg6; exact ge_off FR (Nat.le_refl _)
  have Fng6g4 : (g4 ≠ g6) := by subst hX egg6; exact Nat.ne_of_lt (Array.getElem?_eq_some_iff.1 Fg4).1
  replace FR := (I.on FR bQ)
  replace FO := (ownD_below FO bQ)
  replace FXs := (sv_on FXs bQ)
  replace Fg4 := (on9 Fg4 bQ)
  replace Fg5 := (on9 Fg5 bQ)
  replace BB := BB.trans (bQ.mono BB.size)
  clear bQ hX egg6 ee a
  refine rf_ [(4, .pointer (some ⟨g4, 0, none⟩)), (5, .pointer (some ⟨g5, 0, none⟩)), (6, .pointer (some ⟨g6, 0, none⟩))] (h1_ t0) ?_
  rintro a A ⟨t4, t5, t6, -⟩ ⟨t0, -⟩
  refine wp_seq ?_
  refine wp_seq ?_
  refine wi_ A (h4_ t0 t4 t5 t6) (rv_ 0 (.pointer (some ⟨g5, 0, none⟩)) (fun a ee => execFx0 rfl (ee _)) (rv_ 1 (.int .i64 kd) (fun a ee => execLd1 rfl (Or.inr (Or.inl rfl)) (ee _) (xC_at Fg5).1) (rf_ [(24, .int .i64 kd)] (h4_ t0 t4 t5 t6) ?_)))
  rintro a A ⟨t24, -⟩ ⟨t0, t4, t5, t6, -⟩
  refine wp_block ?_
  refine wp_seq ?_
  refine wi_ A (h5_ t0 t4 t5 t6 t24) (rv_ 0 (.bool true) (fun a ee => execDec (exIeql3 (p := kd) (q := 1) rfl (ee _) rfl) (decide_eq_true hk)) (rf_ [(25, .bool true)] (h5_ t0 t4 t5 t6 t24) ?_))
  rintro a A ⟨t25, -⟩ ⟨t0, t4, t5, t6, t24, -⟩
  refine wp_cond_true t25 ?_
  clear t25
  refine wp_seq ?_
  refine wi_ A (h5_ t0 t4 t5 t6 t24) (rv_ 1 (.pointer (some ⟨g5, 0 + 2, none⟩)) (fun a ee => execFx2 rfl (ee _)) (rv_ 2 (.int .i64 x) (fun a ee => execLd1 rfl (Or.inr (Or.inl rfl)) (ee _) (xC_at Fg5).2.2) (rc_ 3 (putI_f FR hx hf) fun e X3 hh => ?_)))
  obtain ⟨fp1, he, hk, hs, hf⟩ := hh
  refine ⟨_, he, ?_⟩
  obtain ⟨BB, FO, Fg4, Fg5, Fg6, FR1, FS1, Fsub, Frf, Fpg4, Fpg5, Fpg6⟩ : Below U.heap.size U X3 ∧ (X3.ownsRow U.heap.size 3 1 r n (intsL n z)) ∧ (X3.heap[g4]? = some (.cells (dC r ((k : Nat) : Int) false) 32)) ∧ (X3.heap[g5]? = some (.cells (xC kd d x) 34)) ∧ (X3.heap[g6]? = some (.cells (dC (.slice none 0 0) 0 false) 32)) ∧ (I.R X3 fp1 v (zI z) n k false) ∧ (Saved F V X3) ∧ (∀ q, fp1 q → F q ∨ V.heap.size ≤ q) ∧ (∀ g, r.ownBlock = some g → ¬ fp1 g) ∧ (¬ fp1 g4) ∧ (¬ fp1 g5) ∧ (¬ fp1 g6) := ⟨sv_below BB hs hF, (own_saved18 FO hs hr), (bk_saved Fg4 hs Fog4), (bk_saved Fg5 hs Fog5), (bk_saved Fg6 hs Fog6), hk, sv_then FXs hs, fp_then FXs hf, row_off FO hr hf, fo_then Fog4 Fg4 hf, fo_then Fog5 Fg5 hf, fo_then Fog6 Fg6 hf⟩
  clear FR FXs
  refine rf_ [(8, .bool false), (9, .int .i64 ((0 : Nat) : Int))] (h4_ t0 t4 t5 t6) ?_
  rintro a A ⟨t8, t9, -⟩ ⟨t0, t4, t5, t6, -⟩
  refine wp_seq ?_
  refine wi_ A (h6_ t0 t4 t5 t6 t8 t9) (rv_ 0 (.agg (dC r ((k : Nat) : Int) false)) (fun a ee => execLdD rfl (ee _) Fg4) (rv_ 1 (.pointer (some ⟨g5, 0 + 2, none⟩)) (fun a ee => execFx2 rfl (ee _)) (rv_ 2 (.int .i64 x) (fun a ee => execLd1 rfl (Or.inr (Or.inl rfl)) (ee _) (xC_at Fg5).2.2) (rc_ 3 (rput_f r x ((k : Nat) : Int) n U.heap.size z X3 FO (by omega)) (cb_ fun X4_1 bQ => ?_)))))
  replace FO := (ownD_below FO bQ)
  replace Fg4 := (on9 Fg4 bQ)
  replace Fg5 := (on9 Fg5 bQ)
  replace Fg6 := (on9 Fg6 bQ)
  replace FR1 := (I.on FR1 bQ)
  replace FS1 := (sv_on FS1 bQ)
  replace BB := BB.trans (bQ.mono BB.size)
  clear bQ
  obtain ⟨g10, egg10⟩ : ∃ z_ : Nat, X4_1.heap.size = z_ := ⟨_, rfl⟩
  refine rs_ 8 (fun a ee => ?_)
  refine stepV rfl rfl (execAlD rfl) ⟨.pointer (some ⟨g10, 0, none⟩), ⟨_, rfl, by subst egg10; rfl⟩, fun X4_2 hX => ?_⟩
  have bQ : Below X4_1.heap.size X4_1 X4_2 := by subst hX egg10; exact (belNew X4_1 _)
  have Fg10 : (X4_2.heap[g10]? = some (.cells (dC (.slice none 0 0) 0 false) 32)) := by subst hX egg10; exact heapNew X4_1 _
  have Fgeg10 : (V.heap.size ≤ g10) := by subst hX egg10; exact FS1.size
  have Fpg10 : (¬ fp1 g10) := by subst hX egg10; exact ge_off FR1 (Nat.le_refl _)
  have Fng10g4 : (g4 ≠ g10) := by subst hX egg10; exact Nat.ne_of_lt (Array.getElem?_eq_some_iff.1 Fg4).1
  have Fng10g6 : (g6 ≠ g10) := by subst hX egg10; exact Nat.ne_of_lt (Array.getElem?_eq_some_iff.1 Fg6).1
  replace FO := (ownD_below FO bQ)
  replace Fg4 := (on9 Fg4 bQ)
  replace Fg5 := (on9 Fg5 bQ)
  replace Fg6 := (on9 Fg6 bQ)
  replace FR1 := (I.on FR1 bQ)
  replace FS1 := (sv_on FS1 bQ)
  replace BB := BB.trans (bQ.mono BB.size)
  clear bQ hX egg10 ee a
  refine rs_ 9 (fun a ee => ?_)
  refine stepS rfl rfl (execStD rfl (ee _) (ee _) Fg10 (own_slq FO)) ⟨_, ⟨_, rfl, rfl⟩, fun X4 hX => ?_⟩
  obtain ⟨BB, FO, Fg4, Fg5, Fg6, FR1, FS1, Fg10s1⟩ : Below U.heap.size U X4 ∧ (X4.ownsRow U.heap.size 3 1 r n (intsL n z)) ∧ (X4.heap[g4]? = some (.cells (dC r ((k : Nat) : Int) false) 32)) ∧ (X4.heap[g5]? = some (.cells (xC kd d x) 34)) ∧ (X4.heap[g6]? = some (.cells (dC (.slice none 0 0) 0 false) 32)) ∧ (I.R X4 fp1 v (zI z) n k false) ∧ (Saved F V X4) ∧ (X4.heap[g10]? = some (.cells (dC r ((k : Nat) : Int) false) 32)) := by subst hX; exact ⟨below4 BB (Nat.le_trans hUV.size Fgeg10) _, (ownG_T FO Fg10 (by decide) grR18), (by rw [setRow_other _ _ _ _ Fng10g4]; exact Fg4), (keepT Fg5 Fg10 (by decide) grR18), (by rw [setRow_other _ _ _ _ Fng10g6]; exact Fg6), (dr_row FR1 Fpg10 _), (sv_row FS1 Fgeg10 _), setRow_heap _ _ _ _ _ _ Fg10⟩
  clear Fg10 hX ee a
  refine rf_ [(10, .pointer (some ⟨g10, 0, none⟩)), (11, .bool false), (12, .int .i64 ((0 : Nat) : Int))] (h3_ t6 t8 t9) ?_
  rintro a A ⟨t10, t11, t12, -⟩ ⟨t6, t8, t9, -⟩
  refine wp_seq ?_
  refine wi_ A (h6_ t6 t10 t8 t9 t11 t12) (rv_ 0 (.agg (dC r ((k : Nat) : Int) false)) (fun a ee => execLdD rfl (ee _) Fg10s1) (rv_ 3 (.bool true) (fun a ee => execEqBB (b := false) rfl (ee _) (ee _)) (rv_ 7 (.bool true) (fun a ee => execDec (exIeql3 (p := ((0 : Nat) : Int)) (q := ((0 : Nat) : Int)) rfl (ee _) (ee _)) (decide_eq_true rfl)) (rs_ 9 (fun a ee => ?_)))))
  refine stepS rfl rfl (execStD rfl (ee _) (ee _) Fg6 (own_slq FO)) ⟨_, ⟨_, rfl, rfl⟩, fun X5 hX => ?_⟩
  obtain ⟨BB, FO, Fg4, Fg5, FR1, FS1, Fg10s1, Fg6s2⟩ : Below U.heap.size U X5 ∧ (X5.ownsRow U.heap.size 3 1 r n (intsL n z)) ∧ (X5.heap[g4]? = some (.cells (dC r ((k : Nat) : Int) false) 32)) ∧ (X5.heap[g5]? = some (.cells (xC kd d x) 34)) ∧ (I.R X5 fp1 v (zI z) n k false) ∧ (Saved F V X5) ∧ (X5.heap[g10]? = some (.cells (dC r ((k : Nat) : Int) false) 32)) ∧ (X5.heap[g6]? = some (.cells (dC r ((k : Nat) : Int) false) 32)) := by subst hX; exact ⟨below4 BB (Nat.le_trans hUV.size Fgeg6) _, (ownG_T FO Fg6 (by decide) grR18), (by rw [setRow_other _ _ _ _ Fng6g4]; exact Fg4), (keepT Fg5 Fg6 (by decide) grR18), (dr_row FR1 Fpg6 _), (sv_row FS1 Fgeg6 _), (by rw [setRow_other _ _ _ _ (Ne.symm Fng10g6)]; exact Fg10s1), setRow_heap _ _ _ _ _ _ Fg6⟩
  clear Fg6 hX ee a
  refine rf_ [(7, .bool true)] (h1_ t6) ?_
  rintro a A ⟨t7, -⟩ ⟨t6, -⟩
  refine wp_ret ?_
  repeat (first | with_reducible refine ret_in ?_ | with_reducible refine ret_then ?_)
  refine bodyPost_ret (res_c1 _ _ g6 32 _ (0, 0) _ Try.results9 t6 Fg6s2 Try.underlying32 rfl (sizeD _ _ _)) A.2 ⟨⟨fp1, r, z, n, false, ?_, ⟨FR1, FO⟩, hz, Frf, fun g hg => Or.inl hg, Fsub, FS1⟩, BB⟩
  show Ending.returned (.tuple #[.agg (dC r ((k : Nat) : Int) false), a.eval (.tmp 7)]) = _
  rw [t7]
set_option maxRecDepth 100000 in
set_option maxHeartbeats 4000000 in
/-- One call. -/
theorem ply_po (I : ImplI) (v r : Value) (F : Nat → Prop) (n k : Nat) (z : Nat → Int) (kd d x : Int) (U V : World) (hUV : Below U.heap.size U V) (hR : I.R V F v (zI z) n k false) (own : V.ownsRow U.heap.size 3 1 r n (intsL n z)) (hF : ∀ q, F q → U.heap.size ≤ q) (hr : ∀ g, r.ownBlock = some g → ¬ F g) (hz : ∀ j, j < n → I64 (z j)) (hk : kd = 1) (hx : I64 x) (hf : n < k) :
    Calls Try.prog 9 #[v, .agg (dC r ((k : Nat) : Int) false), .agg (xC kd d x)] V fun e w' => Plyd I U V F v r k e w' ∧ Below U.heap.size U w' := by
  go_enter Try.func9, Try.ntmps9
  refine wo_ 97 [(0, v), (1, .agg (dC r ((k : Nat) : Int) false)), (2, .agg (xC kd d x))] ?_
  rintro a A ⟨t0, t1, t2, -⟩
  have BB := hUV
  have FR := hR
  have FO := own
  have FXs := Saved.refl F V
  refine wp_seq ?_
  obtain ⟨g4, egg4⟩ : ∃ z_ : Nat, V.heap.size = z_ := ⟨_, rfl⟩
  refine wi_ A (h3_ t0 t1 t2) (rs_ 0 (fun a ee => ?_))
  refine stepV rfl rfl (execBxD rfl (ee _) (own_slq FO)) ⟨.pointer (some ⟨g4, 0, none⟩), ⟨_, rfl, by subst egg4; rfl⟩, fun X0_1 hX => ?_⟩
  have bQ : Below V.heap.size V X0_1 := by subst hX egg4; exact (belNew V _)
  have Fg4 : (X0_1.heap[g4]? = some (.cells (dC r ((k : Nat) : Int) false) 32)) := by subst hX egg4; exact heapNew V _
  have Fgeg4 : (V.heap.size ≤ g4) := by subst hX egg4; exact FXs.size
  have Fog4 : (¬ F g4) := by subst hX egg4; exact ge_off FR (Nat.le_refl _)
  replace FR := (I.on FR bQ)
  replace FO := (ownD_below FO bQ)
  replace FXs := (sv_on FXs bQ)
  replace BB := BB.trans (bQ.mono BB.size)
  clear bQ hX egg4 ee a
  obtain ⟨g5, egg5⟩ : ∃ z_ : Nat, X0_1.heap.size = z_ := ⟨_, rfl⟩
  refine rs_ 1 (fun a ee => ?_)
  refine stepV rfl rfl (execBxX rfl (ee _)) ⟨.pointer (some ⟨g5, 0, none⟩), ⟨_, rfl, by subst egg5; rfl⟩, fun X0_2 hX => ?_⟩
  have bQ : Below X0_1.heap.size X0_1 X0_2 := by subst hX egg5; exact (belNew X0_1 _)
  have Fg5 : (X0_2.heap[g5]? = some (.cells (xC kd d x) 34)) := by subst hX egg5; exact heapNew X0_1 _
  have Fgeg5 : (V.heap.size ≤ g5) := by subst hX egg5; exact FXs.size
  have Fog5 : (¬ F g5) := by subst hX egg5; exact ge_off FR (Nat.le_refl _)
  replace FR := (I.on FR bQ)
  replace FO := (ownD_below FO bQ)
  replace FXs := (sv_on FXs bQ)
  replace Fg4 := (on9 Fg4 bQ)
  replace BB := BB.trans (bQ.mono BB.size)
  clear bQ hX egg5 ee a
  obtain ⟨g6, egg6⟩ : ∃ z_ : Nat, X0_2.heap.size = z_ := ⟨_, rfl⟩
  refine rs_ 2 (fun a ee => ?_)
  refine stepV rfl rfl (execAlD rfl) ⟨.pointer (some ⟨g6, 0, none⟩), ⟨_, rfl, by subst egg6; rfl⟩, fun X0 hX => ?_⟩
  have bQ : Below X0_2.heap.size X0_2 X0 := by subst hX egg6; exact (belNew X0_2 _)
  have Fg6 : (X0.heap[g6]? = some (.cells (dC (.slice none 0 0) 0 false) 32)) := by subst hX egg6; exact heapNew X0_2 _
  have Fgeg6 : (V.heap.size ≤ g6) := by subst hX egg6; exact FXs.size
  have Fog6 : (¬ F g6) := by subst hX egg6; exact ge_off FR (Nat.le_refl _)
  have Fng6g4 : (g4 ≠ g6) := by subst hX egg6; exact Nat.ne_of_lt (Array.getElem?_eq_some_iff.1 Fg4).1
  replace FR := (I.on FR bQ)
  replace FO := (ownD_below FO bQ)
  replace FXs := (sv_on FXs bQ)
  replace Fg4 := (on9 Fg4 bQ)
  replace Fg5 := (on9 Fg5 bQ)
  replace BB := BB.trans (bQ.mono BB.size)
  clear bQ hX egg6 ee a
  refine rf_ [(4, .pointer (some ⟨g4, 0, none⟩)), (5, .pointer (some ⟨g5, 0, none⟩)), (6, .pointer (some ⟨g6, 0, none⟩))] (h1_ t0) ?_
  rintro a A ⟨t4, t5, t6, -⟩ ⟨t0, -⟩
  refine wp_seq ?_
  refine wp_seq ?_
  refine wi_ A (h4_ t0 t4 t5 t6) (rv_ 0 (.pointer (some ⟨g5, 0, none⟩)) (fun a ee => execFx0 rfl (ee _)) (rv_ 1 (.int .i64 kd) (fun a ee => execLd1 rfl (Or.inr (Or.inl rfl)) (ee _) (xC_at Fg5).1) (rf_ [(24, .int .i64 kd)] (h4_ t0 t4 t5 t6) ?_)))
  rintro a A ⟨t24, -⟩ ⟨t0, t4, t5, t6, -⟩
  refine wp_block ?_
  refine wp_seq ?_
  refine wi_ A (h5_ t0 t4 t5 t6 t24) (rv_ 0 (.bool true) (fun a ee => execDec (exIeql3 (p := kd) (q := 1) rfl (ee _) rfl) (decide_eq_true hk)) (rf_ [(25, .bool true)] (h5_ t0 t4 t5 t6 t24) ?_))
  rintro a A ⟨t25, -⟩ ⟨t0, t4, t5, t6, t24, -⟩
  refine wp_cond_true t25 ?_
  clear t25
  refine wp_seq ?_
  refine wi_ A (h5_ t0 t4 t5 t6 t24) (rv_ 1 (.pointer (some ⟨g5, 0 + 2, none⟩)) (fun a ee => execFx2 rfl (ee _)) (rv_ 2 (.int .i64 x) (fun a ee => execLd1 rfl (Or.inr (Or.inl rfl)) (ee _) (xC_at Fg5).2.2) (rc_ 3 (putI_t FR hx hf) fun e X3 hh => ?_)))
  obtain ⟨fp1, he, hk, hs, hf⟩ := hh
  refine ⟨_, he, ?_⟩
  obtain ⟨BB, FO, Fg4, Fg5, Fg6, FR1, FS1, Fsub, Frf, Fpg4, Fpg5, Fpg6⟩ : Below U.heap.size U X3 ∧ (X3.ownsRow U.heap.size 3 1 r n (intsL n z)) ∧ (X3.heap[g4]? = some (.cells (dC r ((k : Nat) : Int) false) 32)) ∧ (X3.heap[g5]? = some (.cells (xC kd d x) 34)) ∧ (X3.heap[g6]? = some (.cells (dC (.slice none 0 0) 0 false) 32)) ∧ (I.R X3 fp1 v (zI (up z n x)) (n + 1) k false) ∧ (Saved F V X3) ∧ (∀ q, fp1 q → F q ∨ V.heap.size ≤ q) ∧ (∀ g, r.ownBlock = some g → ¬ fp1 g) ∧ (¬ fp1 g4) ∧ (¬ fp1 g5) ∧ (¬ fp1 g6) := ⟨sv_below BB hs hF, (own_saved18 FO hs hr), (bk_saved Fg4 hs Fog4), (bk_saved Fg5 hs Fog5), (bk_saved Fg6 hs Fog6), hk, sv_then FXs hs, fp_then FXs hf, row_off FO hr hf, fo_then Fog4 Fg4 hf, fo_then Fog5 Fg5 hf, fo_then Fog6 Fg6 hf⟩
  clear FR FXs
  refine rf_ [(8, .bool true), (9, .int .i64 ((0 : Nat) : Int))] (h4_ t0 t4 t5 t6) ?_
  rintro a A ⟨t8, t9, -⟩ ⟨t0, t4, t5, t6, -⟩
  refine wp_seq ?_
  refine wi_ A (h6_ t0 t4 t5 t6 t8 t9) (rv_ 0 (.agg (dC r ((k : Nat) : Int) false)) (fun a ee => execLdD rfl (ee _) Fg4) (rv_ 1 (.pointer (some ⟨g5, 0 + 2, none⟩)) (fun a ee => execFx2 rfl (ee _)) (rv_ 2 (.int .i64 x) (fun a ee => execLd1 rfl (Or.inr (Or.inl rfl)) (ee _) (xC_at Fg5).2.2) (rc_ 3 (rput_o r x ((k : Nat) : Int) n U.heap.size z X3 FO hz (Nat.le_trans (I.le hR).1 (I.le hR).2) (by omega)) fun e X4_1 hh => ?_))))
  obtain ⟨⟨r2, he, hown⟩, hb⟩ := hh
  refine ⟨_, he, ?_⟩
  have bQ : Below X3.heap.size X3 X4_1 := hb
  have FO2 : (X4_1.ownsRow U.heap.size 3 1 r2 (n + 1) (intsL (n + 1) (up z n x))) := ownD_base hown (BB).size
  have Foff : (∀ g, r2.ownBlock = some g → ¬ fp1 g) := fun g hg h => Nat.not_lt.2 (own_lo hown hg) (I.lt FR1 g h)
  have Fnew : (∀ g, r2.ownBlock = some g → V.heap.size ≤ g) := fun g hg => Nat.le_trans FS1.size (own_lo hown hg)
  replace Fg4 := (on9 Fg4 bQ)
  replace Fg5 := (on9 Fg5 bQ)
  replace Fg6 := (on9 Fg6 bQ)
  replace FR1 := (I.on FR1 bQ)
  replace FS1 := (sv_on FS1 bQ)
  replace BB := BB.trans (bQ.mono BB.size)
  clear FO bQ
  obtain ⟨g10, egg10⟩ : ∃ z_ : Nat, X4_1.heap.size = z_ := ⟨_, rfl⟩
  refine rs_ 8 (fun a ee => ?_)
  refine stepV rfl rfl (execAlD rfl) ⟨.pointer (some ⟨g10, 0, none⟩), ⟨_, rfl, by subst egg10; rfl⟩, fun X4_2 hX => ?_⟩
  have bQ : Below X4_1.heap.size X4_1 X4_2 := by subst hX egg10; exact (belNew X4_1 _)
  have Fg10 : (X4_2.heap[g10]? = some (.cells (dC (.slice none 0 0) 0 false) 32)) := by subst hX egg10; exact heapNew X4_1 _
  have Fgeg10 : (V.heap.size ≤ g10) := by subst hX egg10; exact FS1.size
  have Fpg10 : (¬ fp1 g10) := by subst hX egg10; exact ge_off FR1 (Nat.le_refl _)
  have Fng10g4 : (g4 ≠ g10) := by subst hX egg10; exact Nat.ne_of_lt (Array.getElem?_eq_some_iff.1 Fg4).1
  have Fng10g6 : (g6 ≠ g10) := by subst hX egg10; exact Nat.ne_of_lt (Array.getElem?_eq_some_iff.1 Fg6).1
  replace Fg4 := (on9 Fg4 bQ)
  replace Fg5 := (on9 Fg5 bQ)
  replace Fg6 := (on9 Fg6 bQ)
  replace FR1 := (I.on FR1 bQ)
  replace FS1 := (sv_on FS1 bQ)
  replace FO2 := (ownD_below FO2 bQ)
  replace BB := BB.trans (bQ.mono BB.size)
  clear bQ hX egg10 ee a
  refine rs_ 9 (fun a ee => ?_)
  refine stepS rfl rfl (execStD rfl (ee _) (ee _) Fg10 (own_slq FO2)) ⟨_, ⟨_, rfl, rfl⟩, fun X4 hX => ?_⟩
  obtain ⟨BB, Fg4, Fg5, Fg6, FR1, FS1, FO2, Fg10s1⟩ : Below U.heap.size U X4 ∧ (X4.heap[g4]? = some (.cells (dC r ((k : Nat) : Int) false) 32)) ∧ (X4.heap[g5]? = some (.cells (xC kd d x) 34)) ∧ (X4.heap[g6]? = some (.cells (dC (.slice none 0 0) 0 false) 32)) ∧ (I.R X4 fp1 v (zI (up z n x)) (n + 1) k false) ∧ (Saved F V X4) ∧ (X4.ownsRow U.heap.size 3 1 r2 (n + 1) (intsL (n + 1) (up z n x))) ∧ (X4.heap[g10]? = some (.cells (dC r2 ((k : Nat) : Int) false) 32)) := by subst hX; exact ⟨below4 BB (Nat.le_trans hUV.size Fgeg10) _, (by rw [setRow_other _ _ _ _ Fng10g4]; exact Fg4), (keepT Fg5 Fg10 (by decide) grR18), (by rw [setRow_other _ _ _ _ Fng10g6]; exact Fg6), (dr_row FR1 Fpg10 _), (sv_row FS1 Fgeg10 _), (ownG_T FO2 Fg10 (by decide) grR18), setRow_heap _ _ _ _ _ _ Fg10⟩
  clear Fg10 hX ee a
  refine rf_ [(10, .pointer (some ⟨g10, 0, none⟩)), (11, .bool true), (12, .int .i64 ((0 : Nat) : Int))] (h3_ t6 t8 t9) ?_
  rintro a A ⟨t10, t11, t12, -⟩ ⟨t6, t8, t9, -⟩
  refine wp_seq ?_
  refine wi_ A (h6_ t6 t10 t8 t9 t11 t12) (rv_ 0 (.agg (dC r2 ((k : Nat) : Int) false)) (fun a ee => execLdD rfl (ee _) Fg10s1) (rv_ 3 (.bool true) (fun a ee => execEqBB (b := true) rfl (ee _) (ee _)) (rv_ 7 (.bool true) (fun a ee => execDec (exIeql3 (p := ((0 : Nat) : Int)) (q := ((0 : Nat) : Int)) rfl (ee _) (ee _)) (decide_eq_true rfl)) (rs_ 9 (fun a ee => ?_)))))
  refine stepS rfl rfl (execStD rfl (ee _) (ee _) Fg6 (own_slq FO2)) ⟨_, ⟨_, rfl, rfl⟩, fun X5 hX => ?_⟩
  obtain ⟨BB, Fg4, Fg5, FR1, FS1, FO2, Fg10s1, Fg6s2⟩ : Below U.heap.size U X5 ∧ (X5.heap[g4]? = some (.cells (dC r ((k : Nat) : Int) false) 32)) ∧ (X5.heap[g5]? = some (.cells (xC kd d x) 34)) ∧ (I.R X5 fp1 v (zI (up z n x)) (n + 1) k false) ∧ (Saved F V X5) ∧ (X5.ownsRow U.heap.size 3 1 r2 (n + 1) (intsL (n + 1) (up z n x))) ∧ (X5.heap[g10]? = some (.cells (dC r2 ((k : Nat) : Int) false) 32)) ∧ (X5.heap[g6]? = some (.cells (dC r2 ((k : Nat) : Int) false) 32)) := by subst hX; exact ⟨below4 BB (Nat.le_trans hUV.size Fgeg6) _, (by rw [setRow_other _ _ _ _ Fng6g4]; exact Fg4), (keepT Fg5 Fg6 (by decide) grR18), (dr_row FR1 Fpg6 _), (sv_row FS1 Fgeg6 _), (ownG_T FO2 Fg6 (by decide) grR18), (by rw [setRow_other _ _ _ _ (Ne.symm Fng10g6)]; exact Fg10s1), setRow_heap _ _ _ _ _ _ Fg6⟩
  clear Fg6 hX ee a
  refine rf_ [(7, .bool true)] (h1_ t6) ?_
  rintro a A ⟨t7, -⟩ ⟨t6, -⟩
  refine wp_ret ?_
  repeat (first | with_reducible refine ret_in ?_ | with_reducible refine ret_then ?_)
  refine bodyPost_ret (res_c1 _ _ g6 32 _ (0, 0) _ Try.results9 t6 Fg6s2 Try.underlying32 rfl (sizeD _ _ _)) A.2 ⟨⟨fp1, r2, (up z n x), (n + 1), false, ?_, ⟨FR1, FO2⟩, up_num hz hx, Foff, fun g hg => Or.inr (Fnew g hg), Fsub, FS1⟩, BB⟩
  show Ending.returned (.tuple #[.agg (dC r2 ((k : Nat) : Int) false), a.eval (.tmp 7)]) = _
  rw [t7]
set_option maxRecDepth 100000 in
set_option maxHeartbeats 4000000 in
/-- One call. -/
theorem ply_tc (I : ImplI) (v r : Value) (F : Nat → Prop) (n k : Nat) (z : Nat → Int) (kd d x : Int) (U V : World) (hUV : Below U.heap.size U V) (hR : I.R V F v (zI z) n k true) (own : V.ownsRow U.heap.size 3 1 r n (intsL n z)) (hF : ∀ q, F q → U.heap.size ≤ q) (hr : ∀ g, r.ownBlock = some g → ¬ F g) (hz : ∀ j, j < n → I64 (z j)) (hk : kd = 2) (h0 : n = 0) :
    Calls Try.prog 9 #[v, .agg (dC r ((k : Nat) : Int) true), .agg (xC kd d x)] V fun e w' => Plyd I U V F v r k e w' ∧ Below U.heap.size U w' := by
  go_enter Try.func9, Try.ntmps9
  refine wo_ 97 [(0, v), (1, .agg (dC r ((k : Nat) : Int) true)), (2, .agg (xC kd d x))] ?_
  rintro a A ⟨t0, t1, t2, -⟩
  have BB := hUV
  have FR := hR
  have FO := own
  have FXs := Saved.refl F V
  refine wp_seq ?_
  obtain ⟨g4, egg4⟩ : ∃ z_ : Nat, V.heap.size = z_ := ⟨_, rfl⟩
  refine wi_ A (h3_ t0 t1 t2) (rs_ 0 (fun a ee => ?_))
  refine stepV rfl rfl (execBxD rfl (ee _) (own_slq FO)) ⟨.pointer (some ⟨g4, 0, none⟩), ⟨_, rfl, by subst egg4; rfl⟩, fun X0_1 hX => ?_⟩
  have bQ : Below V.heap.size V X0_1 := by subst hX egg4; exact (belNew V _)
  have Fg4 : (X0_1.heap[g4]? = some (.cells (dC r ((k : Nat) : Int) true) 32)) := by subst hX egg4; exact heapNew V _
  have Fgeg4 : (V.heap.size ≤ g4) := by subst hX egg4; exact FXs.size
  have Fog4 : (¬ F g4) := by subst hX egg4; exact ge_off FR (Nat.le_refl _)
  replace FR := (I.on FR bQ)
  replace FO := (ownD_below FO bQ)
  replace FXs := (sv_on FXs bQ)
  replace BB := BB.trans (bQ.mono BB.size)
  clear bQ hX egg4 ee a
  obtain ⟨g5, egg5⟩ : ∃ z_ : Nat, X0_1.heap.size = z_ := ⟨_, rfl⟩
  refine rs_ 1 (fun a ee => ?_)
  refine stepV rfl rfl (execBxX rfl (ee _)) ⟨.pointer (some ⟨g5, 0, none⟩), ⟨_, rfl, by subst egg5; rfl⟩, fun X0_2 hX => ?_⟩
  have bQ : Below X0_1.heap.size X0_1 X0_2 := by subst hX egg5; exact (belNew X0_1 _)
  have Fg5 : (X0_2.heap[g5]? = some (.cells (xC kd d x) 34)) := by subst hX egg5; exact heapNew X0_1 _
  have Fgeg5 : (V.heap.size ≤ g5) := by subst hX egg5; exact FXs.size
  have Fog5 : (¬ F g5) := by subst hX egg5; exact ge_off FR (Nat.le_refl _)
  replace FR := (I.on FR bQ)
  replace FO := (ownD_below FO bQ)
  replace FXs := (sv_on FXs bQ)
  replace Fg4 := (on9 Fg4 bQ)
  replace BB := BB.trans (bQ.mono BB.size)
  clear bQ hX egg5 ee a
  obtain ⟨g6, egg6⟩ : ∃ z_ : Nat, X0_2.heap.size = z_ := ⟨_, rfl⟩
  refine rs_ 2 (fun a ee => ?_)
  refine stepV rfl rfl (execAlD rfl) ⟨.pointer (some ⟨g6, 0, none⟩), ⟨_, rfl, by subst egg6; rfl⟩, fun X0 hX => ?_⟩
  have bQ : Below X0_2.heap.size X0_2 X0 := by subst hX egg6; exact (belNew X0_2 _)
  have Fg6 : (X0.heap[g6]? = some (.cells (dC (.slice none 0 0) 0 false) 32)) := by subst hX egg6; exact heapNew X0_2 _
  have Fgeg6 : (V.heap.size ≤ g6) := by subst hX egg6; exact FXs.size
  have Fog6 : (¬ F g6) := by subst hX egg6; exact ge_off FR (Nat.le_refl _)
  have Fng6g4 : (g4 ≠ g6) := by subst hX egg6; exact Nat.ne_of_lt (Array.getElem?_eq_some_iff.1 Fg4).1
  replace FR := (I.on FR bQ)
  replace FO := (ownD_below FO bQ)
  replace FXs := (sv_on FXs bQ)
  replace Fg4 := (on9 Fg4 bQ)
  replace Fg5 := (on9 Fg5 bQ)
  replace BB := BB.trans (bQ.mono BB.size)
  clear bQ hX egg6 ee a
  refine rf_ [(4, .pointer (some ⟨g4, 0, none⟩)), (5, .pointer (some ⟨g5, 0, none⟩)), (6, .pointer (some ⟨g6, 0, none⟩))] (h1_ t0) ?_
  rintro a A ⟨t4, t5, t6, -⟩ ⟨t0, -⟩
  refine wp_seq ?_
  refine wp_seq ?_
  refine wi_ A (h4_ t0 t4 t5 t6) (rv_ 0 (.pointer (some ⟨g5, 0, none⟩)) (fun a ee => execFx0 rfl (ee _)) (rv_ 1 (.int .i64 kd) (fun a ee => execLd1 rfl (Or.inr (Or.inl rfl)) (ee _) (xC_at Fg5).1) (rf_ [(24, .int .i64 kd)] (h4_ t0 t4 t5 t6) ?_)))
  rintro a A ⟨t24, -⟩ ⟨t0, t4, t5, t6, -⟩
  refine wp_block ?_
  refine wp_seq ?_
  refine wi_ A (h5_ t0 t4 t5 t6 t24) (rv_ 0 (.bool false) (fun a ee => execDec (exIeql3 (p := kd) (q := 1) rfl (ee _) rfl) (decide_eq_false (by omega))) (rf_ [(25, .bool false)] (h5_ t0 t4 t5 t6 t24) ?_))
  rintro a A ⟨t25, -⟩ ⟨t0, t4, t5, t6, t24, -⟩
  refine wp_cond_false t25 ?_
  clear t25
  refine wp_seq ?_
  refine wi_ A (h5_ t0 t4 t5 t6 t24) (rv_ 0 (.bool true) (fun a ee => execDec (exIeql3 (p := kd) (q := 2) rfl (ee _) rfl) (decide_eq_true hk)) (rf_ [(51, .bool true)] (h5_ t0 t4 t5 t6 t24) ?_))
  rintro a A ⟨t51, -⟩ ⟨t0, t4, t5, t6, t24, -⟩
  refine wp_cond_true t51 ?_
  clear t51
  refine wp_seq ?_
  refine wi_ A (h5_ t0 t4 t5 t6 t24) (rc_ 1 (takeI_c FR h0) fun e X7 hh => ?_)
  obtain ⟨fp1, he, hk, hs, hf⟩ := hh
  refine ⟨_, he, ?_⟩
  obtain ⟨BB, FO, Fg4, Fg5, Fg6, FR1, FS1, Fsub, Frf, Fpg4, Fpg5, Fpg6⟩ : Below U.heap.size U X7 ∧ (X7.ownsRow U.heap.size 3 1 r n (intsL n z)) ∧ (X7.heap[g4]? = some (.cells (dC r ((k : Nat) : Int) true) 32)) ∧ (X7.heap[g5]? = some (.cells (xC kd d x) 34)) ∧ (X7.heap[g6]? = some (.cells (dC (.slice none 0 0) 0 false) 32)) ∧ (I.R X7 fp1 v (zI z) n k true) ∧ (Saved F V X7) ∧ (∀ q, fp1 q → F q ∨ V.heap.size ≤ q) ∧ (∀ g, r.ownBlock = some g → ¬ fp1 g) ∧ (¬ fp1 g4) ∧ (¬ fp1 g5) ∧ (¬ fp1 g6) := ⟨sv_below BB hs hF, (own_saved18 FO hs hr), (bk_saved Fg4 hs Fog4), (bk_saved Fg5 hs Fog5), (bk_saved Fg6 hs Fog6), hk, sv_then FXs hs, fp_then FXs hf, row_off FO hr hf, fo_then Fog4 Fg4 hf, fo_then Fog5 Fg5 hf, fo_then Fog6 Fg6 hf⟩
  clear FR FXs
  refine rf_ [(13, .int .i64 ((0 : Nat) : Int)), (14, .bool false), (15, .int .i64 ((180 : Nat) : Int))] (h4_ t0 t4 t5 t6) ?_
  rintro a A ⟨t13, t14, t15, -⟩ ⟨t0, t4, t5, t6, -⟩
  refine wp_seq ?_
  refine wi_ A (h7_ t0 t4 t5 t6 t13 t14 t15) (rv_ 0 (.agg (dC r ((k : Nat) : Int) true)) (fun a ee => execLdD rfl (ee _) Fg4) (rc_ 1 (rtake_c r ((k : Nat) : Int) n U.heap.size z X7 FO h0) (cb_ fun X8_1 bQ => ?_)))
  replace FO := (ownD_below FO bQ)
  replace Fg4 := (on9 Fg4 bQ)
  replace Fg5 := (on9 Fg5 bQ)
  replace Fg6 := (on9 Fg6 bQ)
  replace FR1 := (I.on FR1 bQ)
  replace FS1 := (sv_on FS1 bQ)
  replace BB := BB.trans (bQ.mono BB.size)
  clear bQ
  obtain ⟨g16, egg16⟩ : ∃ z_ : Nat, X8_1.heap.size = z_ := ⟨_, rfl⟩
  refine rs_ 7 (fun a ee => ?_)
  refine stepV rfl rfl (execAlD rfl) ⟨.pointer (some ⟨g16, 0, none⟩), ⟨_, rfl, by subst egg16; rfl⟩, fun X8_2 hX => ?_⟩
  have bQ : Below X8_1.heap.size X8_1 X8_2 := by subst hX egg16; exact (belNew X8_1 _)
  have Fg16 : (X8_2.heap[g16]? = some (.cells (dC (.slice none 0 0) 0 false) 32)) := by subst hX egg16; exact heapNew X8_1 _
  have Fgeg16 : (V.heap.size ≤ g16) := by subst hX egg16; exact FS1.size
  have Fpg16 : (¬ fp1 g16) := by subst hX egg16; exact ge_off FR1 (Nat.le_refl _)
  have Fng16g4 : (g4 ≠ g16) := by subst hX egg16; exact Nat.ne_of_lt (Array.getElem?_eq_some_iff.1 Fg4).1
  have Fng16g6 : (g6 ≠ g16) := by subst hX egg16; exact Nat.ne_of_lt (Array.getElem?_eq_some_iff.1 Fg6).1
  replace FO := (ownD_below FO bQ)
  replace Fg4 := (on9 Fg4 bQ)
  replace Fg5 := (on9 Fg5 bQ)
  replace Fg6 := (on9 Fg6 bQ)
  replace FR1 := (I.on FR1 bQ)
  replace FS1 := (sv_on FS1 bQ)
  replace BB := BB.trans (bQ.mono BB.size)
  clear bQ hX egg16 ee a
  refine rs_ 8 (fun a ee => ?_)
  refine stepS rfl rfl (execStD rfl (ee _) (ee _) Fg16 (own_slq FO)) ⟨_, ⟨_, rfl, rfl⟩, fun X8 hX => ?_⟩
  obtain ⟨BB, FO, Fg4, Fg5, Fg6, FR1, FS1, Fg16s1⟩ : Below U.heap.size U X8 ∧ (X8.ownsRow U.heap.size 3 1 r n (intsL n z)) ∧ (X8.heap[g4]? = some (.cells (dC r ((k : Nat) : Int) true) 32)) ∧ (X8.heap[g5]? = some (.cells (xC kd d x) 34)) ∧ (X8.heap[g6]? = some (.cells (dC (.slice none 0 0) 0 false) 32)) ∧ (I.R X8 fp1 v (zI z) n k true) ∧ (Saved F V X8) ∧ (X8.heap[g16]? = some (.cells (dC r ((k : Nat) : Int) true) 32)) := by subst hX; exact ⟨below4 BB (Nat.le_trans hUV.size Fgeg16) _, (ownG_T FO Fg16 (by decide) grR18), (by rw [setRow_other _ _ _ _ Fng16g4]; exact Fg4), (keepT Fg5 Fg16 (by decide) grR18), (by rw [setRow_other _ _ _ _ Fng16g6]; exact Fg6), (dr_row FR1 Fpg16 _), (sv_row FS1 Fgeg16 _), setRow_heap _ _ _ _ _ _ Fg16⟩
  clear Fg16 hX ee a
  refine rf_ [(16, .pointer (some ⟨g16, 0, none⟩)), (17, .int .i64 ((0 : Nat) : Int)), (18, .bool false), (19, .int .i64 ((180 : Nat) : Int))] (h4_ t6 t13 t14 t15) ?_
  rintro a A ⟨t16, t17, t18, t19, -⟩ ⟨t6, t13, t14, t15, -⟩
  refine wp_seq ?_
  refine wi_ A (h8_ t6 t16 t13 t14 t15 t17 t18 t19) (rv_ 0 (.agg (dC r ((k : Nat) : Int) true)) (fun a ee => execLdD rfl (ee _) Fg16s1) (rv_ 3 (.bool true) (fun a ee => execDec (exIeql3 (p := ((0 : Nat) : Int)) (q := ((0 : Nat) : Int)) rfl (ee _) (ee _)) (decide_eq_true rfl)) (rv_ 7 (.bool true) (fun a ee => execEqBB (b := false) rfl (ee _) (ee _)) (rv_ 12 (.bool true) (fun a ee => execDec (exIeql3 (p := ((180 : Nat) : Int)) (q := ((180 : Nat) : Int)) rfl (ee _) (ee _)) (decide_eq_true rfl)) (rs_ 14 (fun a ee => ?_))))))
  refine stepS rfl rfl (execStD rfl (ee _) (ee _) Fg6 (own_slq FO)) ⟨_, ⟨_, rfl, rfl⟩, fun X9 hX => ?_⟩
  obtain ⟨BB, FO, Fg4, Fg5, FR1, FS1, Fg16s1, Fg6s2⟩ : Below U.heap.size U X9 ∧ (X9.ownsRow U.heap.size 3 1 r n (intsL n z)) ∧ (X9.heap[g4]? = some (.cells (dC r ((k : Nat) : Int) true) 32)) ∧ (X9.heap[g5]? = some (.cells (xC kd d x) 34)) ∧ (I.R X9 fp1 v (zI z) n k true) ∧ (Saved F V X9) ∧ (X9.heap[g16]? = some (.cells (dC r ((k : Nat) : Int) true) 32)) ∧ (X9.heap[g6]? = some (.cells (dC r ((k : Nat) : Int) true) 32)) := by subst hX; exact ⟨below4 BB (Nat.le_trans hUV.size Fgeg6) _, (ownG_T FO Fg6 (by decide) grR18), (by rw [setRow_other _ _ _ _ Fng6g4]; exact Fg4), (keepT Fg5 Fg6 (by decide) grR18), (dr_row FR1 Fpg6 _), (sv_row FS1 Fgeg6 _), (by rw [setRow_other _ _ _ _ (Ne.symm Fng16g6)]; exact Fg16s1), setRow_heap _ _ _ _ _ _ Fg6⟩
  clear Fg6 hX ee a
  refine rf_ [(7, .bool true)] (h1_ t6) ?_
  rintro a A ⟨t7, -⟩ ⟨t6, -⟩
  refine wp_ret ?_
  repeat (first | with_reducible refine ret_in ?_ | with_reducible refine ret_then ?_)
  refine bodyPost_ret (res_c1 _ _ g6 32 _ (0, 0) _ Try.results9 t6 Fg6s2 Try.underlying32 rfl (sizeD _ _ _)) A.2 ⟨⟨fp1, r, z, n, true, ?_, ⟨FR1, FO⟩, hz, Frf, fun g hg => Or.inl hg, Fsub, FS1⟩, BB⟩
  show Ending.returned (.tuple #[.agg (dC r ((k : Nat) : Int) true), a.eval (.tmp 7)]) = _
  rw [t7]
set_option maxRecDepth 100000 in
set_option maxHeartbeats 4000000 in
/-- One call. -/
theorem ply_te (I : ImplI) (v r : Value) (F : Nat → Prop) (n k : Nat) (z : Nat → Int) (kd d x : Int) (U V : World) (hUV : Below U.heap.size U V) (hR : I.R V F v (zI z) n k false) (own : V.ownsRow U.heap.size 3 1 r n (intsL n z)) (hF : ∀ q, F q → U.heap.size ≤ q) (hr : ∀ g, r.ownBlock = some g → ¬ F g) (hz : ∀ j, j < n → I64 (z j)) (hk : kd = 2) (h0 : n = 0) :
    Calls Try.prog 9 #[v, .agg (dC r ((k : Nat) : Int) false), .agg (xC kd d x)] V fun e w' => Plyd I U V F v r k e w' ∧ Below U.heap.size U w' := by
  go_enter Try.func9, Try.ntmps9
  refine wo_ 97 [(0, v), (1, .agg (dC r ((k : Nat) : Int) false)), (2, .agg (xC kd d x))] ?_
  rintro a A ⟨t0, t1, t2, -⟩
  have BB := hUV
  have FR := hR
  have FO := own
  have FXs := Saved.refl F V
  refine wp_seq ?_
  obtain ⟨g4, egg4⟩ : ∃ z_ : Nat, V.heap.size = z_ := ⟨_, rfl⟩
  refine wi_ A (h3_ t0 t1 t2) (rs_ 0 (fun a ee => ?_))
  refine stepV rfl rfl (execBxD rfl (ee _) (own_slq FO)) ⟨.pointer (some ⟨g4, 0, none⟩), ⟨_, rfl, by subst egg4; rfl⟩, fun X0_1 hX => ?_⟩
  have bQ : Below V.heap.size V X0_1 := by subst hX egg4; exact (belNew V _)
  have Fg4 : (X0_1.heap[g4]? = some (.cells (dC r ((k : Nat) : Int) false) 32)) := by subst hX egg4; exact heapNew V _
  have Fgeg4 : (V.heap.size ≤ g4) := by subst hX egg4; exact FXs.size
  have Fog4 : (¬ F g4) := by subst hX egg4; exact ge_off FR (Nat.le_refl _)
  replace FR := (I.on FR bQ)
  replace FO := (ownD_below FO bQ)
  replace FXs := (sv_on FXs bQ)
  replace BB := BB.trans (bQ.mono BB.size)
  clear bQ hX egg4 ee a
  obtain ⟨g5, egg5⟩ : ∃ z_ : Nat, X0_1.heap.size = z_ := ⟨_, rfl⟩
  refine rs_ 1 (fun a ee => ?_)
  refine stepV rfl rfl (execBxX rfl (ee _)) ⟨.pointer (some ⟨g5, 0, none⟩), ⟨_, rfl, by subst egg5; rfl⟩, fun X0_2 hX => ?_⟩
  have bQ : Below X0_1.heap.size X0_1 X0_2 := by subst hX egg5; exact (belNew X0_1 _)
  have Fg5 : (X0_2.heap[g5]? = some (.cells (xC kd d x) 34)) := by subst hX egg5; exact heapNew X0_1 _
  have Fgeg5 : (V.heap.size ≤ g5) := by subst hX egg5; exact FXs.size
  have Fog5 : (¬ F g5) := by subst hX egg5; exact ge_off FR (Nat.le_refl _)
  replace FR := (I.on FR bQ)
  replace FO := (ownD_below FO bQ)
  replace FXs := (sv_on FXs bQ)
  replace Fg4 := (on9 Fg4 bQ)
  replace BB := BB.trans (bQ.mono BB.size)
  clear bQ hX egg5 ee a
  obtain ⟨g6, egg6⟩ : ∃ z_ : Nat, X0_2.heap.size = z_ := ⟨_, rfl⟩
  refine rs_ 2 (fun a ee => ?_)
  refine stepV rfl rfl (execAlD rfl) ⟨.pointer (some ⟨g6, 0, none⟩), ⟨_, rfl, by subst egg6; rfl⟩, fun X0 hX => ?_⟩
  have bQ : Below X0_2.heap.size X0_2 X0 := by subst hX egg6; exact (belNew X0_2 _)
  have Fg6 : (X0.heap[g6]? = some (.cells (dC (.slice none 0 0) 0 false) 32)) := by subst hX egg6; exact heapNew X0_2 _
  have Fgeg6 : (V.heap.size ≤ g6) := by subst hX egg6; exact FXs.size
  have Fog6 : (¬ F g6) := by subst hX egg6; exact ge_off FR (Nat.le_refl _)
  have Fng6g4 : (g4 ≠ g6) := by subst hX egg6; exact Nat.ne_of_lt (Array.getElem?_eq_some_iff.1 Fg4).1
  replace FR := (I.on FR bQ)
  replace FO := (ownD_below FO bQ)
  replace FXs := (sv_on FXs bQ)
  replace Fg4 := (on9 Fg4 bQ)
  replace Fg5 := (on9 Fg5 bQ)
  replace BB := BB.trans (bQ.mono BB.size)
  clear bQ hX egg6 ee a
  refine rf_ [(4, .pointer (some ⟨g4, 0, none⟩)), (5, .pointer (some ⟨g5, 0, none⟩)), (6, .pointer (some ⟨g6, 0, none⟩))] (h1_ t0) ?_
  rintro a A ⟨t4, t5, t6, -⟩ ⟨t0, -⟩
  refine wp_seq ?_
  refine wp_seq ?_
  refine wi_ A (h4_ t0 t4 t5 t6) (rv_ 0 (.pointer (some ⟨g5, 0, none⟩)) (fun a ee => execFx0 rfl (ee _)) (rv_ 1 (.int .i64 kd) (fun a ee => execLd1 rfl (Or.inr (Or.inl rfl)) (ee _) (xC_at Fg5).1) (rf_ [(24, .int .i64 kd)] (h4_ t0 t4 t5 t6) ?_)))
  rintro a A ⟨t24, -⟩ ⟨t0, t4, t5, t6, -⟩
  refine wp_block ?_
  refine wp_seq ?_
  refine wi_ A (h5_ t0 t4 t5 t6 t24) (rv_ 0 (.bool false) (fun a ee => execDec (exIeql3 (p := kd) (q := 1) rfl (ee _) rfl) (decide_eq_false (by omega))) (rf_ [(25, .bool false)] (h5_ t0 t4 t5 t6 t24) ?_))
  rintro a A ⟨t25, -⟩ ⟨t0, t4, t5, t6, t24, -⟩
  refine wp_cond_false t25 ?_
  clear t25
  refine wp_seq ?_
  refine wi_ A (h5_ t0 t4 t5 t6 t24) (rv_ 0 (.bool true) (fun a ee => execDec (exIeql3 (p := kd) (q := 2) rfl (ee _) rfl) (decide_eq_true hk)) (rf_ [(51, .bool true)] (h5_ t0 t4 t5 t6 t24) ?_))
  rintro a A ⟨t51, -⟩ ⟨t0, t4, t5, t6, t24, -⟩
  refine wp_cond_true t51 ?_
  clear t51
  refine wp_seq ?_
  refine wi_ A (h5_ t0 t4 t5 t6 t24) (rc_ 1 (takeI_e FR h0) fun e X7 hh => ?_)
  obtain ⟨fp1, he, hk, hs, hf⟩ := hh
  refine ⟨_, he, ?_⟩
  obtain ⟨BB, FO, Fg4, Fg5, Fg6, FR1, FS1, Fsub, Frf, Fpg4, Fpg5, Fpg6⟩ : Below U.heap.size U X7 ∧ (X7.ownsRow U.heap.size 3 1 r n (intsL n z)) ∧ (X7.heap[g4]? = some (.cells (dC r ((k : Nat) : Int) false) 32)) ∧ (X7.heap[g5]? = some (.cells (xC kd d x) 34)) ∧ (X7.heap[g6]? = some (.cells (dC (.slice none 0 0) 0 false) 32)) ∧ (I.R X7 fp1 v (zI z) n k false) ∧ (Saved F V X7) ∧ (∀ q, fp1 q → F q ∨ V.heap.size ≤ q) ∧ (∀ g, r.ownBlock = some g → ¬ fp1 g) ∧ (¬ fp1 g4) ∧ (¬ fp1 g5) ∧ (¬ fp1 g6) := ⟨sv_below BB hs hF, (own_saved18 FO hs hr), (bk_saved Fg4 hs Fog4), (bk_saved Fg5 hs Fog5), (bk_saved Fg6 hs Fog6), hk, sv_then FXs hs, fp_then FXs hf, row_off FO hr hf, fo_then Fog4 Fg4 hf, fo_then Fog5 Fg5 hf, fo_then Fog6 Fg6 hf⟩
  clear FR FXs
  refine rf_ [(13, .int .i64 ((0 : Nat) : Int)), (14, .bool false), (15, .int .i64 ((0 : Nat) : Int))] (h4_ t0 t4 t5 t6) ?_
  rintro a A ⟨t13, t14, t15, -⟩ ⟨t0, t4, t5, t6, -⟩
  refine wp_seq ?_
  refine wi_ A (h7_ t0 t4 t5 t6 t13 t14 t15) (rv_ 0 (.agg (dC r ((k : Nat) : Int) false)) (fun a ee => execLdD rfl (ee _) Fg4) (rc_ 1 (rtake_e r ((k : Nat) : Int) n U.heap.size z X7 FO h0) (cb_ fun X8_1 bQ => ?_)))
  replace FO := (ownD_below FO bQ)
  replace Fg4 := (on9 Fg4 bQ)
  replace Fg5 := (on9 Fg5 bQ)
  replace Fg6 := (on9 Fg6 bQ)
  replace FR1 := (I.on FR1 bQ)
  replace FS1 := (sv_on FS1 bQ)
  replace BB := BB.trans (bQ.mono BB.size)
  clear bQ
  obtain ⟨g16, egg16⟩ : ∃ z_ : Nat, X8_1.heap.size = z_ := ⟨_, rfl⟩
  refine rs_ 7 (fun a ee => ?_)
  refine stepV rfl rfl (execAlD rfl) ⟨.pointer (some ⟨g16, 0, none⟩), ⟨_, rfl, by subst egg16; rfl⟩, fun X8_2 hX => ?_⟩
  have bQ : Below X8_1.heap.size X8_1 X8_2 := by subst hX egg16; exact (belNew X8_1 _)
  have Fg16 : (X8_2.heap[g16]? = some (.cells (dC (.slice none 0 0) 0 false) 32)) := by subst hX egg16; exact heapNew X8_1 _
  have Fgeg16 : (V.heap.size ≤ g16) := by subst hX egg16; exact FS1.size
  have Fpg16 : (¬ fp1 g16) := by subst hX egg16; exact ge_off FR1 (Nat.le_refl _)
  have Fng16g4 : (g4 ≠ g16) := by subst hX egg16; exact Nat.ne_of_lt (Array.getElem?_eq_some_iff.1 Fg4).1
  have Fng16g6 : (g6 ≠ g16) := by subst hX egg16; exact Nat.ne_of_lt (Array.getElem?_eq_some_iff.1 Fg6).1
  replace FO := (ownD_below FO bQ)
  replace Fg4 := (on9 Fg4 bQ)
  replace Fg5 := (on9 Fg5 bQ)
  replace Fg6 := (on9 Fg6 bQ)
  replace FR1 := (I.on FR1 bQ)
  replace FS1 := (sv_on FS1 bQ)
  replace BB := BB.trans (bQ.mono BB.size)
  clear bQ hX egg16 ee a
  refine rs_ 8 (fun a ee => ?_)
  refine stepS rfl rfl (execStD rfl (ee _) (ee _) Fg16 (own_slq FO)) ⟨_, ⟨_, rfl, rfl⟩, fun X8 hX => ?_⟩
  obtain ⟨BB, FO, Fg4, Fg5, Fg6, FR1, FS1, Fg16s1⟩ : Below U.heap.size U X8 ∧ (X8.ownsRow U.heap.size 3 1 r n (intsL n z)) ∧ (X8.heap[g4]? = some (.cells (dC r ((k : Nat) : Int) false) 32)) ∧ (X8.heap[g5]? = some (.cells (xC kd d x) 34)) ∧ (X8.heap[g6]? = some (.cells (dC (.slice none 0 0) 0 false) 32)) ∧ (I.R X8 fp1 v (zI z) n k false) ∧ (Saved F V X8) ∧ (X8.heap[g16]? = some (.cells (dC r ((k : Nat) : Int) false) 32)) := by subst hX; exact ⟨below4 BB (Nat.le_trans hUV.size Fgeg16) _, (ownG_T FO Fg16 (by decide) grR18), (by rw [setRow_other _ _ _ _ Fng16g4]; exact Fg4), (keepT Fg5 Fg16 (by decide) grR18), (by rw [setRow_other _ _ _ _ Fng16g6]; exact Fg6), (dr_row FR1 Fpg16 _), (sv_row FS1 Fgeg16 _), setRow_heap _ _ _ _ _ _ Fg16⟩
  clear Fg16 hX ee a
  refine rf_ [(16, .pointer (some ⟨g16, 0, none⟩)), (17, .int .i64 ((0 : Nat) : Int)), (18, .bool false), (19, .int .i64 ((0 : Nat) : Int))] (h4_ t6 t13 t14 t15) ?_
  rintro a A ⟨t16, t17, t18, t19, -⟩ ⟨t6, t13, t14, t15, -⟩
  refine wp_seq ?_
  refine wi_ A (h8_ t6 t16 t13 t14 t15 t17 t18 t19) (rv_ 0 (.agg (dC r ((k : Nat) : Int) false)) (fun a ee => execLdD rfl (ee _) Fg16s1) (rv_ 3 (.bool true) (fun a ee => execDec (exIeql3 (p := ((0 : Nat) : Int)) (q := ((0 : Nat) : Int)) rfl (ee _) (ee _)) (decide_eq_true rfl)) (rv_ 7 (.bool true) (fun a ee => execEqBB (b := false) rfl (ee _) (ee _)) (rv_ 12 (.bool true) (fun a ee => execDec (exIeql3 (p := ((0 : Nat) : Int)) (q := ((0 : Nat) : Int)) rfl (ee _) (ee _)) (decide_eq_true rfl)) (rs_ 14 (fun a ee => ?_))))))
  refine stepS rfl rfl (execStD rfl (ee _) (ee _) Fg6 (own_slq FO)) ⟨_, ⟨_, rfl, rfl⟩, fun X9 hX => ?_⟩
  obtain ⟨BB, FO, Fg4, Fg5, FR1, FS1, Fg16s1, Fg6s2⟩ : Below U.heap.size U X9 ∧ (X9.ownsRow U.heap.size 3 1 r n (intsL n z)) ∧ (X9.heap[g4]? = some (.cells (dC r ((k : Nat) : Int) false) 32)) ∧ (X9.heap[g5]? = some (.cells (xC kd d x) 34)) ∧ (I.R X9 fp1 v (zI z) n k false) ∧ (Saved F V X9) ∧ (X9.heap[g16]? = some (.cells (dC r ((k : Nat) : Int) false) 32)) ∧ (X9.heap[g6]? = some (.cells (dC r ((k : Nat) : Int) false) 32)) := by subst hX; exact ⟨below4 BB (Nat.le_trans hUV.size Fgeg6) _, (ownG_T FO Fg6 (by decide) grR18), (by rw [setRow_other _ _ _ _ Fng6g4]; exact Fg4), (keepT Fg5 Fg6 (by decide) grR18), (dr_row FR1 Fpg6 _), (sv_row FS1 Fgeg6 _), (by rw [setRow_other _ _ _ _ (Ne.symm Fng16g6)]; exact Fg16s1), setRow_heap _ _ _ _ _ _ Fg6⟩
  clear Fg6 hX ee a
  refine rf_ [(7, .bool true)] (h1_ t6) ?_
  rintro a A ⟨t7, -⟩ ⟨t6, -⟩
  refine wp_ret ?_
  repeat (first | with_reducible refine ret_in ?_ | with_reducible refine ret_then ?_)
  refine bodyPost_ret (res_c1 _ _ g6 32 _ (0, 0) _ Try.results9 t6 Fg6s2 Try.underlying32 rfl (sizeD _ _ _)) A.2 ⟨⟨fp1, r, z, n, false, ?_, ⟨FR1, FO⟩, hz, Frf, fun g hg => Or.inl hg, Fsub, FS1⟩, BB⟩
  show Ending.returned (.tuple #[.agg (dC r ((k : Nat) : Int) false), a.eval (.tmp 7)]) = _
  rw [t7]
set_option maxRecDepth 100000 in
set_option maxHeartbeats 4000000 in
/-- One call. -/
theorem ply_to (I : ImplI) (v r : Value) (F : Nat → Prop) (n k : Nat) (z : Nat → Int) (kd d x : Int) (U V : World) (c : Bool) (hUV : Below U.heap.size U V) (hR : I.R V F v (zI z) n k c) (own : V.ownsRow U.heap.size 3 1 r n (intsL n z)) (hF : ∀ q, F q → U.heap.size ≤ q) (hr : ∀ g, r.ownBlock = some g → ¬ F g) (hz : ∀ j, j < n → I64 (z j)) (hk : kd = 2) (h0 : 0 < n) :
    Calls Try.prog 9 #[v, .agg (dC r ((k : Nat) : Int) c), .agg (xC kd d x)] V fun e w' => Plyd I U V F v r k e w' ∧ Below U.heap.size U w' := by
  go_enter Try.func9, Try.ntmps9
  refine wo_ 97 [(0, v), (1, .agg (dC r ((k : Nat) : Int) c)), (2, .agg (xC kd d x))] ?_
  rintro a A ⟨t0, t1, t2, -⟩
  have BB := hUV
  have FR := hR
  have FO := own
  have FXs := Saved.refl F V
  refine wp_seq ?_
  obtain ⟨g4, egg4⟩ : ∃ z_ : Nat, V.heap.size = z_ := ⟨_, rfl⟩
  refine wi_ A (h3_ t0 t1 t2) (rs_ 0 (fun a ee => ?_))
  refine stepV rfl rfl (execBxD rfl (ee _) (own_slq FO)) ⟨.pointer (some ⟨g4, 0, none⟩), ⟨_, rfl, by subst egg4; rfl⟩, fun X0_1 hX => ?_⟩
  have bQ : Below V.heap.size V X0_1 := by subst hX egg4; exact (belNew V _)
  have Fg4 : (X0_1.heap[g4]? = some (.cells (dC r ((k : Nat) : Int) c) 32)) := by subst hX egg4; exact heapNew V _
  have Fgeg4 : (V.heap.size ≤ g4) := by subst hX egg4; exact FXs.size
  have Fog4 : (¬ F g4) := by subst hX egg4; exact ge_off FR (Nat.le_refl _)
  replace FR := (I.on FR bQ)
  replace FO := (ownD_below FO bQ)
  replace FXs := (sv_on FXs bQ)
  replace BB := BB.trans (bQ.mono BB.size)
  clear bQ hX egg4 ee a
  obtain ⟨g5, egg5⟩ : ∃ z_ : Nat, X0_1.heap.size = z_ := ⟨_, rfl⟩
  refine rs_ 1 (fun a ee => ?_)
  refine stepV rfl rfl (execBxX rfl (ee _)) ⟨.pointer (some ⟨g5, 0, none⟩), ⟨_, rfl, by subst egg5; rfl⟩, fun X0_2 hX => ?_⟩
  have bQ : Below X0_1.heap.size X0_1 X0_2 := by subst hX egg5; exact (belNew X0_1 _)
  have Fg5 : (X0_2.heap[g5]? = some (.cells (xC kd d x) 34)) := by subst hX egg5; exact heapNew X0_1 _
  have Fgeg5 : (V.heap.size ≤ g5) := by subst hX egg5; exact FXs.size
  have Fog5 : (¬ F g5) := by subst hX egg5; exact ge_off FR (Nat.le_refl _)
  replace FR := (I.on FR bQ)
  replace FO := (ownD_below FO bQ)
  replace FXs := (sv_on FXs bQ)
  replace Fg4 := (on9 Fg4 bQ)
  replace BB := BB.trans (bQ.mono BB.size)
  clear bQ hX egg5 ee a
  obtain ⟨g6, egg6⟩ : ∃ z_ : Nat, X0_2.heap.size = z_ := ⟨_, rfl⟩
  refine rs_ 2 (fun a ee => ?_)
  refine stepV rfl rfl (execAlD rfl) ⟨.pointer (some ⟨g6, 0, none⟩), ⟨_, rfl, by subst egg6; rfl⟩, fun X0 hX => ?_⟩
  have bQ : Below X0_2.heap.size X0_2 X0 := by subst hX egg6; exact (belNew X0_2 _)
  have Fg6 : (X0.heap[g6]? = some (.cells (dC (.slice none 0 0) 0 false) 32)) := by subst hX egg6; exact heapNew X0_2 _
  have Fgeg6 : (V.heap.size ≤ g6) := by subst hX egg6; exact FXs.size
  have Fog6 : (¬ F g6) := by subst hX egg6; exact ge_off FR (Nat.le_refl _)
  have Fng6g4 : (g4 ≠ g6) := by subst hX egg6; exact Nat.ne_of_lt (Array.getElem?_eq_some_iff.1 Fg4).1
  replace FR := (I.on FR bQ)
  replace FO := (ownD_below FO bQ)
  replace FXs := (sv_on FXs bQ)
  replace Fg4 := (on9 Fg4 bQ)
  replace Fg5 := (on9 Fg5 bQ)
  replace BB := BB.trans (bQ.mono BB.size)
  clear bQ hX egg6 ee a
  refine rf_ [(4, .pointer (some ⟨g4, 0, none⟩)), (5, .pointer (some ⟨g5, 0, none⟩)), (6, .pointer (some ⟨g6, 0, none⟩))] (h1_ t0) ?_
  rintro a A ⟨t4, t5, t6, -⟩ ⟨t0, -⟩
  refine wp_seq ?_
  refine wp_seq ?_
  refine wi_ A (h4_ t0 t4 t5 t6) (rv_ 0 (.pointer (some ⟨g5, 0, none⟩)) (fun a ee => execFx0 rfl (ee _)) (rv_ 1 (.int .i64 kd) (fun a ee => execLd1 rfl (Or.inr (Or.inl rfl)) (ee _) (xC_at Fg5).1) (rf_ [(24, .int .i64 kd)] (h4_ t0 t4 t5 t6) ?_)))
  rintro a A ⟨t24, -⟩ ⟨t0, t4, t5, t6, -⟩
  refine wp_block ?_
  refine wp_seq ?_
  refine wi_ A (h5_ t0 t4 t5 t6 t24) (rv_ 0 (.bool false) (fun a ee => execDec (exIeql3 (p := kd) (q := 1) rfl (ee _) rfl) (decide_eq_false (by omega))) (rf_ [(25, .bool false)] (h5_ t0 t4 t5 t6 t24) ?_))
  rintro a A ⟨t25, -⟩ ⟨t0, t4, t5, t6, t24, -⟩
  refine wp_cond_false t25 ?_
  clear t25
  refine wp_seq ?_
  refine wi_ A (h5_ t0 t4 t5 t6 t24) (rv_ 0 (.bool true) (fun a ee => execDec (exIeql3 (p := kd) (q := 2) rfl (ee _) rfl) (decide_eq_true hk)) (rf_ [(51, .bool true)] (h5_ t0 t4 t5 t6 t24) ?_))
  rintro a A ⟨t51, -⟩ ⟨t0, t4, t5, t6, t24, -⟩
  refine wp_cond_true t51 ?_
  clear t51
  refine wp_seq ?_
  refine wi_ A (h5_ t0 t4 t5 t6 t24) (rc_ 1 (takeI_o FR h0) fun e X7 hh => ?_)
  obtain ⟨fp1, he, hk, hs, hf⟩ := hh
  refine ⟨_, he, ?_⟩
  obtain ⟨BB, FO, Fg4, Fg5, Fg6, FR1, FS1, Fsub, Frf, Fpg4, Fpg5, Fpg6⟩ : Below U.heap.size U X7 ∧ (X7.ownsRow U.heap.size 3 1 r n (intsL n z)) ∧ (X7.heap[g4]? = some (.cells (dC r ((k : Nat) : Int) c) 32)) ∧ (X7.heap[g5]? = some (.cells (xC kd d x) 34)) ∧ (X7.heap[g6]? = some (.cells (dC (.slice none 0 0) 0 false) 32)) ∧ (I.R X7 fp1 v (zI (fun j => z (j + 1))) (n - 1) k c) ∧ (Saved F V X7) ∧ (∀ q, fp1 q → F q ∨ V.heap.size ≤ q) ∧ (∀ g, r.ownBlock = some g → ¬ fp1 g) ∧ (¬ fp1 g4) ∧ (¬ fp1 g5) ∧ (¬ fp1 g6) := ⟨sv_below BB hs hF, (own_saved18 FO hs hr), (bk_saved Fg4 hs Fog4), (bk_saved Fg5 hs Fog5), (bk_saved Fg6 hs Fog6), hk, sv_then FXs hs, fp_then FXs hf, row_off FO hr hf, fo_then Fog4 Fg4 hf, fo_then Fog5 Fg5 hf, fo_then Fog6 Fg6 hf⟩
  clear FR FXs
  refine rf_ [(13, .int .i64 (z 0)), (14, .bool true), (15, .int .i64 ((0 : Nat) : Int))] (h4_ t0 t4 t5 t6) ?_
  rintro a A ⟨t13, t14, t15, -⟩ ⟨t0, t4, t5, t6, -⟩
  refine wp_seq ?_
  refine wi_ A (h7_ t0 t4 t5 t6 t13 t14 t15) (rv_ 0 (.agg (dC r ((k : Nat) : Int) c)) (fun a ee => execLdD rfl (ee _) Fg4) (rc_ 1 (rtake_o r ((k : Nat) : Int) n U.heap.size z X7 FO hz (Nat.le_trans (I.le hR).1 (I.le hR).2) c h0) fun e X8_1 hh => ?_))
  obtain ⟨⟨r2, he, hown⟩, hb⟩ := hh
  refine ⟨_, he, ?_⟩
  have bQ : Below X7.heap.size X7 X8_1 := hb
  have FO2 : (X8_1.ownsRow U.heap.size 3 1 r2 (n - 1) (intsL (n - 1) (fun j => z (j + 1)))) := ownD_base hown (BB).size
  have Foff : (∀ g, r2.ownBlock = some g → ¬ fp1 g) := fun g hg h => Nat.not_lt.2 (own_lo hown hg) (I.lt FR1 g h)
  have Fnew : (∀ g, r2.ownBlock = some g → V.heap.size ≤ g) := fun g hg => Nat.le_trans FS1.size (own_lo hown hg)
  replace Fg4 := (on9 Fg4 bQ)
  replace Fg5 := (on9 Fg5 bQ)
  replace Fg6 := (on9 Fg6 bQ)
  replace FR1 := (I.on FR1 bQ)
  replace FS1 := (sv_on FS1 bQ)
  replace BB := BB.trans (bQ.mono BB.size)
  clear FO bQ
  obtain ⟨g16, egg16⟩ : ∃ z_ : Nat, X8_1.heap.size = z_ := ⟨_, rfl⟩
  refine rs_ 7 (fun a ee => ?_)
  refine stepV rfl rfl (execAlD rfl) ⟨.pointer (some ⟨g16, 0, none⟩), ⟨_, rfl, by subst egg16; rfl⟩, fun X8_2 hX => ?_⟩
  have bQ : Below X8_1.heap.size X8_1 X8_2 := by subst hX egg16; exact (belNew X8_1 _)
  have Fg16 : (X8_2.heap[g16]? = some (.cells (dC (.slice none 0 0) 0 false) 32)) := by subst hX egg16; exact heapNew X8_1 _
  have Fgeg16 : (V.heap.size ≤ g16) := by subst hX egg16; exact FS1.size
  have Fpg16 : (¬ fp1 g16) := by subst hX egg16; exact ge_off FR1 (Nat.le_refl _)
  have Fng16g4 : (g4 ≠ g16) := by subst hX egg16; exact Nat.ne_of_lt (Array.getElem?_eq_some_iff.1 Fg4).1
  have Fng16g6 : (g6 ≠ g16) := by subst hX egg16; exact Nat.ne_of_lt (Array.getElem?_eq_some_iff.1 Fg6).1
  replace Fg4 := (on9 Fg4 bQ)
  replace Fg5 := (on9 Fg5 bQ)
  replace Fg6 := (on9 Fg6 bQ)
  replace FR1 := (I.on FR1 bQ)
  replace FS1 := (sv_on FS1 bQ)
  replace FO2 := (ownD_below FO2 bQ)
  replace BB := BB.trans (bQ.mono BB.size)
  clear bQ hX egg16 ee a
  refine rs_ 8 (fun a ee => ?_)
  refine stepS rfl rfl (execStD rfl (ee _) (ee _) Fg16 (own_slq FO2)) ⟨_, ⟨_, rfl, rfl⟩, fun X8 hX => ?_⟩
  obtain ⟨BB, Fg4, Fg5, Fg6, FR1, FS1, FO2, Fg16s1⟩ : Below U.heap.size U X8 ∧ (X8.heap[g4]? = some (.cells (dC r ((k : Nat) : Int) c) 32)) ∧ (X8.heap[g5]? = some (.cells (xC kd d x) 34)) ∧ (X8.heap[g6]? = some (.cells (dC (.slice none 0 0) 0 false) 32)) ∧ (I.R X8 fp1 v (zI (fun j => z (j + 1))) (n - 1) k c) ∧ (Saved F V X8) ∧ (X8.ownsRow U.heap.size 3 1 r2 (n - 1) (intsL (n - 1) (fun j => z (j + 1)))) ∧ (X8.heap[g16]? = some (.cells (dC r2 ((k : Nat) : Int) c) 32)) := by subst hX; exact ⟨below4 BB (Nat.le_trans hUV.size Fgeg16) _, (by rw [setRow_other _ _ _ _ Fng16g4]; exact Fg4), (keepT Fg5 Fg16 (by decide) grR18), (by rw [setRow_other _ _ _ _ Fng16g6]; exact Fg6), (dr_row FR1 Fpg16 _), (sv_row FS1 Fgeg16 _), (ownG_T FO2 Fg16 (by decide) grR18), setRow_heap _ _ _ _ _ _ Fg16⟩
  clear Fg16 hX ee a
  refine rf_ [(16, .pointer (some ⟨g16, 0, none⟩)), (17, .int .i64 (z 0)), (18, .bool true), (19, .int .i64 ((0 : Nat) : Int))] (h4_ t6 t13 t14 t15) ?_
  rintro a A ⟨t16, t17, t18, t19, -⟩ ⟨t6, t13, t14, t15, -⟩
  refine wp_seq ?_
  refine wi_ A (h8_ t6 t16 t13 t14 t15 t17 t18 t19) (rv_ 0 (.agg (dC r2 ((k : Nat) : Int) c)) (fun a ee => execLdD rfl (ee _) Fg16s1) (rv_ 3 (.bool true) (fun a ee => execDec (exIeql3 (p := (z 0)) (q := (z 0)) rfl (ee _) (ee _)) (decide_eq_true rfl)) (rv_ 7 (.bool true) (fun a ee => execEqBB (b := true) rfl (ee _) (ee _)) (rv_ 12 (.bool true) (fun a ee => execDec (exIeql3 (p := ((0 : Nat) : Int)) (q := ((0 : Nat) : Int)) rfl (ee _) (ee _)) (decide_eq_true rfl)) (rs_ 14 (fun a ee => ?_))))))
  refine stepS rfl rfl (execStD rfl (ee _) (ee _) Fg6 (own_slq FO2)) ⟨_, ⟨_, rfl, rfl⟩, fun X9 hX => ?_⟩
  obtain ⟨BB, Fg4, Fg5, FR1, FS1, FO2, Fg16s1, Fg6s2⟩ : Below U.heap.size U X9 ∧ (X9.heap[g4]? = some (.cells (dC r ((k : Nat) : Int) c) 32)) ∧ (X9.heap[g5]? = some (.cells (xC kd d x) 34)) ∧ (I.R X9 fp1 v (zI (fun j => z (j + 1))) (n - 1) k c) ∧ (Saved F V X9) ∧ (X9.ownsRow U.heap.size 3 1 r2 (n - 1) (intsL (n - 1) (fun j => z (j + 1)))) ∧ (X9.heap[g16]? = some (.cells (dC r2 ((k : Nat) : Int) c) 32)) ∧ (X9.heap[g6]? = some (.cells (dC r2 ((k : Nat) : Int) c) 32)) := by subst hX; exact ⟨below4 BB (Nat.le_trans hUV.size Fgeg6) _, (by rw [setRow_other _ _ _ _ Fng6g4]; exact Fg4), (keepT Fg5 Fg6 (by decide) grR18), (dr_row FR1 Fpg6 _), (sv_row FS1 Fgeg6 _), (ownG_T FO2 Fg6 (by decide) grR18), (by rw [setRow_other _ _ _ _ (Ne.symm Fng16g6)]; exact Fg16s1), setRow_heap _ _ _ _ _ _ Fg6⟩
  clear Fg6 hX ee a
  refine rf_ [(7, .bool true)] (h1_ t6) ?_
  rintro a A ⟨t7, -⟩ ⟨t6, -⟩
  refine wp_ret ?_
  repeat (first | with_reducible refine ret_in ?_ | with_reducible refine ret_then ?_)
  refine bodyPost_ret (res_c1 _ _ g6 32 _ (0, 0) _ Try.results9 t6 Fg6s2 Try.underlying32 rfl (sizeD _ _ _)) A.2 ⟨⟨fp1, r2, (fun j => z (j + 1)), (n - 1), c, ?_, ⟨FR1, FO2⟩, fun j hj => hz (j + 1) (by omega), Foff, fun g hg => Or.inr (Fnew g hg), Fsub, FS1⟩, BB⟩
  show Ending.returned (.tuple #[.agg (dC r2 ((k : Nat) : Int) c), a.eval (.tmp 7)]) = _
  rw [t7]
set_option maxRecDepth 100000 in
set_option maxHeartbeats 4000000 in
/-- One call. -/
theorem ply_cc (I : ImplI) (v r : Value) (F : Nat → Prop) (n k : Nat) (z : Nat → Int) (kd d x : Int) (U V : World) (hUV : Below U.heap.size U V) (hR : I.R V F v (zI z) n k true) (own : V.ownsRow U.heap.size 3 1 r n (intsL n z)) (hF : ∀ q, F q → U.heap.size ≤ q) (hr : ∀ g, r.ownBlock = some g → ¬ F g) (hz : ∀ j, j < n → I64 (z j)) (hk : kd = 3) :
    Calls Try.prog 9 #[v, .agg (dC r ((k : Nat) : Int) true), .agg (xC kd d x)] V fun e w' => Plyd I U V F v r k e w' ∧ Below U.heap.size U w' := by
  go_enter Try.func9, Try.ntmps9
  refine wo_ 97 [(0, v), (1, .agg (dC r ((k : Nat) : Int) true)), (2, .agg (xC kd d x))] ?_
  rintro a A ⟨t0, t1, t2, -⟩
  have BB := hUV
  have FR := hR
  have FO := own
  have FXs := Saved.refl F V
  refine wp_seq ?_
  obtain ⟨g4, egg4⟩ : ∃ z_ : Nat, V.heap.size = z_ := ⟨_, rfl⟩
  refine wi_ A (h3_ t0 t1 t2) (rs_ 0 (fun a ee => ?_))
  refine stepV rfl rfl (execBxD rfl (ee _) (own_slq FO)) ⟨.pointer (some ⟨g4, 0, none⟩), ⟨_, rfl, by subst egg4; rfl⟩, fun X0_1 hX => ?_⟩
  have bQ : Below V.heap.size V X0_1 := by subst hX egg4; exact (belNew V _)
  have Fg4 : (X0_1.heap[g4]? = some (.cells (dC r ((k : Nat) : Int) true) 32)) := by subst hX egg4; exact heapNew V _
  have Fgeg4 : (V.heap.size ≤ g4) := by subst hX egg4; exact FXs.size
  have Fog4 : (¬ F g4) := by subst hX egg4; exact ge_off FR (Nat.le_refl _)
  replace FR := (I.on FR bQ)
  replace FO := (ownD_below FO bQ)
  replace FXs := (sv_on FXs bQ)
  replace BB := BB.trans (bQ.mono BB.size)
  clear bQ hX egg4 ee a
  obtain ⟨g5, egg5⟩ : ∃ z_ : Nat, X0_1.heap.size = z_ := ⟨_, rfl⟩
  refine rs_ 1 (fun a ee => ?_)
  refine stepV rfl rfl (execBxX rfl (ee _)) ⟨.pointer (some ⟨g5, 0, none⟩), ⟨_, rfl, by subst egg5; rfl⟩, fun X0_2 hX => ?_⟩
  have bQ : Below X0_1.heap.size X0_1 X0_2 := by subst hX egg5; exact (belNew X0_1 _)
  have Fg5 : (X0_2.heap[g5]? = some (.cells (xC kd d x) 34)) := by subst hX egg5; exact heapNew X0_1 _
  have Fgeg5 : (V.heap.size ≤ g5) := by subst hX egg5; exact FXs.size
  have Fog5 : (¬ F g5) := by subst hX egg5; exact ge_off FR (Nat.le_refl _)
  replace FR := (I.on FR bQ)
  replace FO := (ownD_below FO bQ)
  replace FXs := (sv_on FXs bQ)
  replace Fg4 := (on9 Fg4 bQ)
  replace BB := BB.trans (bQ.mono BB.size)
  clear bQ hX egg5 ee a
  obtain ⟨g6, egg6⟩ : ∃ z_ : Nat, X0_2.heap.size = z_ := ⟨_, rfl⟩
  refine rs_ 2 (fun a ee => ?_)
  refine stepV rfl rfl (execAlD rfl) ⟨.pointer (some ⟨g6, 0, none⟩), ⟨_, rfl, by subst egg6; rfl⟩, fun X0 hX => ?_⟩
  have bQ : Below X0_2.heap.size X0_2 X0 := by subst hX egg6; exact (belNew X0_2 _)
  have Fg6 : (X0.heap[g6]? = some (.cells (dC (.slice none 0 0) 0 false) 32)) := by subst hX egg6; exact heapNew X0_2 _
  have Fgeg6 : (V.heap.size ≤ g6) := by subst hX egg6; exact FXs.size
  have Fog6 : (¬ F g6) := by subst hX egg6; exact ge_off FR (Nat.le_refl _)
  have Fng6g4 : (g4 ≠ g6) := by subst hX egg6; exact Nat.ne_of_lt (Array.getElem?_eq_some_iff.1 Fg4).1
  replace FR := (I.on FR bQ)
  replace FO := (ownD_below FO bQ)
  replace FXs := (sv_on FXs bQ)
  replace Fg4 := (on9 Fg4 bQ)
  replace Fg5 := (on9 Fg5 bQ)
  replace BB := BB.trans (bQ.mono BB.size)
  clear bQ hX egg6 ee a
  refine rf_ [(4, .pointer (some ⟨g4, 0, none⟩)), (5, .pointer (some ⟨g5, 0, none⟩)), (6, .pointer (some ⟨g6, 0, none⟩))] (h1_ t0) ?_
  rintro a A ⟨t4, t5, t6, -⟩ ⟨t0, -⟩
  refine wp_seq ?_
  refine wp_seq ?_
  refine wi_ A (h4_ t0 t4 t5 t6) (rv_ 0 (.pointer (some ⟨g5, 0, none⟩)) (fun a ee => execFx0 rfl (ee _)) (rv_ 1 (.int .i64 kd) (fun a ee => execLd1 rfl (Or.inr (Or.inl rfl)) (ee _) (xC_at Fg5).1) (rf_ [(24, .int .i64 kd)] (h4_ t0 t4 t5 t6) ?_)))
  rintro a A ⟨t24, -⟩ ⟨t0, t4, t5, t6, -⟩
  refine wp_block ?_
  refine wp_seq ?_
  refine wi_ A (h5_ t0 t4 t5 t6 t24) (rv_ 0 (.bool false) (fun a ee => execDec (exIeql3 (p := kd) (q := 1) rfl (ee _) rfl) (decide_eq_false (by omega))) (rf_ [(25, .bool false)] (h5_ t0 t4 t5 t6 t24) ?_))
  rintro a A ⟨t25, -⟩ ⟨t0, t4, t5, t6, t24, -⟩
  refine wp_cond_false t25 ?_
  clear t25
  refine wp_seq ?_
  refine wi_ A (h5_ t0 t4 t5 t6 t24) (rv_ 0 (.bool false) (fun a ee => execDec (exIeql3 (p := kd) (q := 2) rfl (ee _) rfl) (decide_eq_false (by omega))) (rf_ [(51, .bool false)] (h5_ t0 t4 t5 t6 t24) ?_))
  rintro a A ⟨t51, -⟩ ⟨t0, t4, t5, t6, t24, -⟩
  refine wp_cond_false t51 ?_
  clear t51
  refine wp_seq ?_
  refine wi_ A (h5_ t0 t4 t5 t6 t24) (rv_ 0 (.bool true) (fun a ee => execDec (exIeql3 (p := kd) (q := 3) rfl (ee _) rfl) (decide_eq_true hk)) (rf_ [(80, .bool true)] (h5_ t0 t4 t5 t6 t24) ?_))
  rintro a A ⟨t80, -⟩ ⟨t0, t4, t5, t6, t24, -⟩
  refine wp_cond_true t80 ?_
  clear t80
  refine wp_seq ?_
  refine wi_ A (h5_ t0 t4 t5 t6 t24) (rc_ 1 (closeI_c FR) fun e X11 hh => ?_)
  obtain ⟨fp1, he, hk, hs, hf⟩ := hh
  refine ⟨_, he, ?_⟩
  obtain ⟨BB, FO, Fg4, Fg5, Fg6, FR1, FS1, Fsub, Frf, Fpg4, Fpg5, Fpg6⟩ : Below U.heap.size U X11 ∧ (X11.ownsRow U.heap.size 3 1 r n (intsL n z)) ∧ (X11.heap[g4]? = some (.cells (dC r ((k : Nat) : Int) true) 32)) ∧ (X11.heap[g5]? = some (.cells (xC kd d x) 34)) ∧ (X11.heap[g6]? = some (.cells (dC (.slice none 0 0) 0 false) 32)) ∧ (I.R X11 fp1 v (zI z) n k true) ∧ (Saved F V X11) ∧ (∀ q, fp1 q → F q ∨ V.heap.size ≤ q) ∧ (∀ g, r.ownBlock = some g → ¬ fp1 g) ∧ (¬ fp1 g4) ∧ (¬ fp1 g5) ∧ (¬ fp1 g6) := ⟨sv_below BB hs hF, (own_saved18 FO hs hr), (bk_saved Fg4 hs Fog4), (bk_saved Fg5 hs Fog5), (bk_saved Fg6 hs Fog6), hk, sv_then FXs hs, fp_then FXs hf, row_off FO hr hf, fo_then Fog4 Fg4 hf, fo_then Fog5 Fg5 hf, fo_then Fog6 Fg6 hf⟩
  clear FR FXs
  refine rf_ [(20, .int .i64 ((180 : Nat) : Int))] (h4_ t0 t4 t5 t6) ?_
  rintro a A ⟨t20, -⟩ ⟨t0, t4, t5, t6, -⟩
  refine wp_seq ?_
  refine wi_ A (h5_ t0 t4 t5 t6 t20) (rv_ 0 (.agg (dC r ((k : Nat) : Int) true)) (fun a ee => execLdD rfl (ee _) Fg4) (rc_ 1 (rclose_c r ((k : Nat) : Int) n U.heap.size z X11 FO) (cb_ fun X12_1 bQ => ?_)))
  replace FO := (ownD_below FO bQ)
  replace Fg4 := (on9 Fg4 bQ)
  replace Fg5 := (on9 Fg5 bQ)
  replace Fg6 := (on9 Fg6 bQ)
  replace FR1 := (I.on FR1 bQ)
  replace FS1 := (sv_on FS1 bQ)
  replace BB := BB.trans (bQ.mono BB.size)
  clear bQ
  obtain ⟨g21, egg21⟩ : ∃ z_ : Nat, X12_1.heap.size = z_ := ⟨_, rfl⟩
  refine rs_ 5 (fun a ee => ?_)
  refine stepV rfl rfl (execAlD rfl) ⟨.pointer (some ⟨g21, 0, none⟩), ⟨_, rfl, by subst egg21; rfl⟩, fun X12_2 hX => ?_⟩
  have bQ : Below X12_1.heap.size X12_1 X12_2 := by subst hX egg21; exact (belNew X12_1 _)
  have Fg21 : (X12_2.heap[g21]? = some (.cells (dC (.slice none 0 0) 0 false) 32)) := by subst hX egg21; exact heapNew X12_1 _
  have Fgeg21 : (V.heap.size ≤ g21) := by subst hX egg21; exact FS1.size
  have Fpg21 : (¬ fp1 g21) := by subst hX egg21; exact ge_off FR1 (Nat.le_refl _)
  have Fng21g4 : (g4 ≠ g21) := by subst hX egg21; exact Nat.ne_of_lt (Array.getElem?_eq_some_iff.1 Fg4).1
  have Fng21g6 : (g6 ≠ g21) := by subst hX egg21; exact Nat.ne_of_lt (Array.getElem?_eq_some_iff.1 Fg6).1
  replace FO := (ownD_below FO bQ)
  replace Fg4 := (on9 Fg4 bQ)
  replace Fg5 := (on9 Fg5 bQ)
  replace Fg6 := (on9 Fg6 bQ)
  replace FR1 := (I.on FR1 bQ)
  replace FS1 := (sv_on FS1 bQ)
  replace BB := BB.trans (bQ.mono BB.size)
  clear bQ hX egg21 ee a
  refine rs_ 6 (fun a ee => ?_)
  refine stepS rfl rfl (execStD rfl (ee _) (ee _) Fg21 (own_slq FO)) ⟨_, ⟨_, rfl, rfl⟩, fun X12 hX => ?_⟩
  obtain ⟨BB, FO, Fg4, Fg5, Fg6, FR1, FS1, Fg21s1⟩ : Below U.heap.size U X12 ∧ (X12.ownsRow U.heap.size 3 1 r n (intsL n z)) ∧ (X12.heap[g4]? = some (.cells (dC r ((k : Nat) : Int) true) 32)) ∧ (X12.heap[g5]? = some (.cells (xC kd d x) 34)) ∧ (X12.heap[g6]? = some (.cells (dC (.slice none 0 0) 0 false) 32)) ∧ (I.R X12 fp1 v (zI z) n k true) ∧ (Saved F V X12) ∧ (X12.heap[g21]? = some (.cells (dC r ((k : Nat) : Int) true) 32)) := by subst hX; exact ⟨below4 BB (Nat.le_trans hUV.size Fgeg21) _, (ownG_T FO Fg21 (by decide) grR18), (by rw [setRow_other _ _ _ _ Fng21g4]; exact Fg4), (keepT Fg5 Fg21 (by decide) grR18), (by rw [setRow_other _ _ _ _ Fng21g6]; exact Fg6), (dr_row FR1 Fpg21 _), (sv_row FS1 Fgeg21 _), setRow_heap _ _ _ _ _ _ Fg21⟩
  clear Fg21 hX ee a
  refine rf_ [(21, .pointer (some ⟨g21, 0, none⟩)), (22, .int .i64 ((180 : Nat) : Int))] (h2_ t6 t20) ?_
  rintro a A ⟨t21, t22, -⟩ ⟨t6, t20, -⟩
  refine wp_seq ?_
  refine wi_ A (h4_ t6 t21 t20 t22) (rv_ 0 (.agg (dC r ((k : Nat) : Int) true)) (fun a ee => execLdD rfl (ee _) Fg21s1) (rv_ 3 (.bool true) (fun a ee => execDec (exIeql3 (p := ((180 : Nat) : Int)) (q := ((180 : Nat) : Int)) rfl (ee _) (ee _)) (decide_eq_true rfl)) (rs_ 4 (fun a ee => ?_))))
  refine stepS rfl rfl (execStD rfl (ee _) (ee _) Fg6 (own_slq FO)) ⟨_, ⟨_, rfl, rfl⟩, fun X13 hX => ?_⟩
  obtain ⟨BB, FO, Fg4, Fg5, FR1, FS1, Fg21s1, Fg6s2⟩ : Below U.heap.size U X13 ∧ (X13.ownsRow U.heap.size 3 1 r n (intsL n z)) ∧ (X13.heap[g4]? = some (.cells (dC r ((k : Nat) : Int) true) 32)) ∧ (X13.heap[g5]? = some (.cells (xC kd d x) 34)) ∧ (I.R X13 fp1 v (zI z) n k true) ∧ (Saved F V X13) ∧ (X13.heap[g21]? = some (.cells (dC r ((k : Nat) : Int) true) 32)) ∧ (X13.heap[g6]? = some (.cells (dC r ((k : Nat) : Int) true) 32)) := by subst hX; exact ⟨below4 BB (Nat.le_trans hUV.size Fgeg6) _, (ownG_T FO Fg6 (by decide) grR18), (by rw [setRow_other _ _ _ _ Fng6g4]; exact Fg4), (keepT Fg5 Fg6 (by decide) grR18), (dr_row FR1 Fpg6 _), (sv_row FS1 Fgeg6 _), (by rw [setRow_other _ _ _ _ (Ne.symm Fng21g6)]; exact Fg21s1), setRow_heap _ _ _ _ _ _ Fg6⟩
  clear Fg6 hX ee a
  refine rf_ [(7, .bool true)] (h1_ t6) ?_
  rintro a A ⟨t7, -⟩ ⟨t6, -⟩
  refine wp_ret ?_
  repeat (first | with_reducible refine ret_in ?_ | with_reducible refine ret_then ?_)
  refine bodyPost_ret (res_c1 _ _ g6 32 _ (0, 0) _ Try.results9 t6 Fg6s2 Try.underlying32 rfl (sizeD _ _ _)) A.2 ⟨⟨fp1, r, z, n, true, ?_, ⟨FR1, FO⟩, hz, Frf, fun g hg => Or.inl hg, Fsub, FS1⟩, BB⟩
  show Ending.returned (.tuple #[.agg (dC r ((k : Nat) : Int) true), a.eval (.tmp 7)]) = _
  rw [t7]
set_option maxRecDepth 100000 in
set_option maxHeartbeats 4000000 in
/-- One call. -/
theorem ply_co (I : ImplI) (v r : Value) (F : Nat → Prop) (n k : Nat) (z : Nat → Int) (kd d x : Int) (U V : World) (hUV : Below U.heap.size U V) (hR : I.R V F v (zI z) n k false) (own : V.ownsRow U.heap.size 3 1 r n (intsL n z)) (hF : ∀ q, F q → U.heap.size ≤ q) (hr : ∀ g, r.ownBlock = some g → ¬ F g) (hz : ∀ j, j < n → I64 (z j)) (hk : kd = 3) :
    Calls Try.prog 9 #[v, .agg (dC r ((k : Nat) : Int) false), .agg (xC kd d x)] V fun e w' => Plyd I U V F v r k e w' ∧ Below U.heap.size U w' := by
  go_enter Try.func9, Try.ntmps9
  refine wo_ 97 [(0, v), (1, .agg (dC r ((k : Nat) : Int) false)), (2, .agg (xC kd d x))] ?_
  rintro a A ⟨t0, t1, t2, -⟩
  have BB := hUV
  have FR := hR
  have FO := own
  have FXs := Saved.refl F V
  refine wp_seq ?_
  obtain ⟨g4, egg4⟩ : ∃ z_ : Nat, V.heap.size = z_ := ⟨_, rfl⟩
  refine wi_ A (h3_ t0 t1 t2) (rs_ 0 (fun a ee => ?_))
  refine stepV rfl rfl (execBxD rfl (ee _) (own_slq FO)) ⟨.pointer (some ⟨g4, 0, none⟩), ⟨_, rfl, by subst egg4; rfl⟩, fun X0_1 hX => ?_⟩
  have bQ : Below V.heap.size V X0_1 := by subst hX egg4; exact (belNew V _)
  have Fg4 : (X0_1.heap[g4]? = some (.cells (dC r ((k : Nat) : Int) false) 32)) := by subst hX egg4; exact heapNew V _
  have Fgeg4 : (V.heap.size ≤ g4) := by subst hX egg4; exact FXs.size
  have Fog4 : (¬ F g4) := by subst hX egg4; exact ge_off FR (Nat.le_refl _)
  replace FR := (I.on FR bQ)
  replace FO := (ownD_below FO bQ)
  replace FXs := (sv_on FXs bQ)
  replace BB := BB.trans (bQ.mono BB.size)
  clear bQ hX egg4 ee a
  obtain ⟨g5, egg5⟩ : ∃ z_ : Nat, X0_1.heap.size = z_ := ⟨_, rfl⟩
  refine rs_ 1 (fun a ee => ?_)
  refine stepV rfl rfl (execBxX rfl (ee _)) ⟨.pointer (some ⟨g5, 0, none⟩), ⟨_, rfl, by subst egg5; rfl⟩, fun X0_2 hX => ?_⟩
  have bQ : Below X0_1.heap.size X0_1 X0_2 := by subst hX egg5; exact (belNew X0_1 _)
  have Fg5 : (X0_2.heap[g5]? = some (.cells (xC kd d x) 34)) := by subst hX egg5; exact heapNew X0_1 _
  have Fgeg5 : (V.heap.size ≤ g5) := by subst hX egg5; exact FXs.size
  have Fog5 : (¬ F g5) := by subst hX egg5; exact ge_off FR (Nat.le_refl _)
  replace FR := (I.on FR bQ)
  replace FO := (ownD_below FO bQ)
  replace FXs := (sv_on FXs bQ)
  replace Fg4 := (on9 Fg4 bQ)
  replace BB := BB.trans (bQ.mono BB.size)
  clear bQ hX egg5 ee a
  obtain ⟨g6, egg6⟩ : ∃ z_ : Nat, X0_2.heap.size = z_ := ⟨_, rfl⟩
  refine rs_ 2 (fun a ee => ?_)
  refine stepV rfl rfl (execAlD rfl) ⟨.pointer (some ⟨g6, 0, none⟩), ⟨_, rfl, by subst egg6; rfl⟩, fun X0 hX => ?_⟩
  have bQ : Below X0_2.heap.size X0_2 X0 := by subst hX egg6; exact (belNew X0_2 _)
  have Fg6 : (X0.heap[g6]? = some (.cells (dC (.slice none 0 0) 0 false) 32)) := by subst hX egg6; exact heapNew X0_2 _
  have Fgeg6 : (V.heap.size ≤ g6) := by subst hX egg6; exact FXs.size
  have Fog6 : (¬ F g6) := by subst hX egg6; exact ge_off FR (Nat.le_refl _)
  have Fng6g4 : (g4 ≠ g6) := by subst hX egg6; exact Nat.ne_of_lt (Array.getElem?_eq_some_iff.1 Fg4).1
  replace FR := (I.on FR bQ)
  replace FO := (ownD_below FO bQ)
  replace FXs := (sv_on FXs bQ)
  replace Fg4 := (on9 Fg4 bQ)
  replace Fg5 := (on9 Fg5 bQ)
  replace BB := BB.trans (bQ.mono BB.size)
  clear bQ hX egg6 ee a
  refine rf_ [(4, .pointer (some ⟨g4, 0, none⟩)), (5, .pointer (some ⟨g5, 0, none⟩)), (6, .pointer (some ⟨g6, 0, none⟩))] (h1_ t0) ?_
  rintro a A ⟨t4, t5, t6, -⟩ ⟨t0, -⟩
  refine wp_seq ?_
  refine wp_seq ?_
  refine wi_ A (h4_ t0 t4 t5 t6) (rv_ 0 (.pointer (some ⟨g5, 0, none⟩)) (fun a ee => execFx0 rfl (ee _)) (rv_ 1 (.int .i64 kd) (fun a ee => execLd1 rfl (Or.inr (Or.inl rfl)) (ee _) (xC_at Fg5).1) (rf_ [(24, .int .i64 kd)] (h4_ t0 t4 t5 t6) ?_)))
  rintro a A ⟨t24, -⟩ ⟨t0, t4, t5, t6, -⟩
  refine wp_block ?_
  refine wp_seq ?_
  refine wi_ A (h5_ t0 t4 t5 t6 t24) (rv_ 0 (.bool false) (fun a ee => execDec (exIeql3 (p := kd) (q := 1) rfl (ee _) rfl) (decide_eq_false (by omega))) (rf_ [(25, .bool false)] (h5_ t0 t4 t5 t6 t24) ?_))
  rintro a A ⟨t25, -⟩ ⟨t0, t4, t5, t6, t24, -⟩
  refine wp_cond_false t25 ?_
  clear t25
  refine wp_seq ?_
  refine wi_ A (h5_ t0 t4 t5 t6 t24) (rv_ 0 (.bool false) (fun a ee => execDec (exIeql3 (p := kd) (q := 2) rfl (ee _) rfl) (decide_eq_false (by omega))) (rf_ [(51, .bool false)] (h5_ t0 t4 t5 t6 t24) ?_))
  rintro a A ⟨t51, -⟩ ⟨t0, t4, t5, t6, t24, -⟩
  refine wp_cond_false t51 ?_
  clear t51
  refine wp_seq ?_
  refine wi_ A (h5_ t0 t4 t5 t6 t24) (rv_ 0 (.bool true) (fun a ee => execDec (exIeql3 (p := kd) (q := 3) rfl (ee _) rfl) (decide_eq_true hk)) (rf_ [(80, .bool true)] (h5_ t0 t4 t5 t6 t24) ?_))
  rintro a A ⟨t80, -⟩ ⟨t0, t4, t5, t6, t24, -⟩
  refine wp_cond_true t80 ?_
  clear t80
  refine wp_seq ?_
  refine wi_ A (h5_ t0 t4 t5 t6 t24) (rc_ 1 (closeI_o FR) fun e X11 hh => ?_)
  obtain ⟨fp1, he, hk, hs, hf⟩ := hh
  refine ⟨_, he, ?_⟩
  obtain ⟨BB, FO, Fg4, Fg5, Fg6, FR1, FS1, Fsub, Frf, Fpg4, Fpg5, Fpg6⟩ : Below U.heap.size U X11 ∧ (X11.ownsRow U.heap.size 3 1 r n (intsL n z)) ∧ (X11.heap[g4]? = some (.cells (dC r ((k : Nat) : Int) false) 32)) ∧ (X11.heap[g5]? = some (.cells (xC kd d x) 34)) ∧ (X11.heap[g6]? = some (.cells (dC (.slice none 0 0) 0 false) 32)) ∧ (I.R X11 fp1 v (zI z) n k true) ∧ (Saved F V X11) ∧ (∀ q, fp1 q → F q ∨ V.heap.size ≤ q) ∧ (∀ g, r.ownBlock = some g → ¬ fp1 g) ∧ (¬ fp1 g4) ∧ (¬ fp1 g5) ∧ (¬ fp1 g6) := ⟨sv_below BB hs hF, (own_saved18 FO hs hr), (bk_saved Fg4 hs Fog4), (bk_saved Fg5 hs Fog5), (bk_saved Fg6 hs Fog6), hk, sv_then FXs hs, fp_then FXs hf, row_off FO hr hf, fo_then Fog4 Fg4 hf, fo_then Fog5 Fg5 hf, fo_then Fog6 Fg6 hf⟩
  clear FR FXs
  refine rf_ [(20, .int .i64 ((0 : Nat) : Int))] (h4_ t0 t4 t5 t6) ?_
  rintro a A ⟨t20, -⟩ ⟨t0, t4, t5, t6, -⟩
  refine wp_seq ?_
  refine wi_ A (h5_ t0 t4 t5 t6 t20) (rv_ 0 (.agg (dC r ((k : Nat) : Int) false)) (fun a ee => execLdD rfl (ee _) Fg4) (rc_ 1 (rclose_o r ((k : Nat) : Int) n U.heap.size z X11 FO) (cb_ fun X12_1 bQ => ?_)))
  replace FO := (ownD_below FO bQ)
  replace Fg4 := (on9 Fg4 bQ)
  replace Fg5 := (on9 Fg5 bQ)
  replace Fg6 := (on9 Fg6 bQ)
  replace FR1 := (I.on FR1 bQ)
  replace FS1 := (sv_on FS1 bQ)
  replace BB := BB.trans (bQ.mono BB.size)
  clear bQ
  obtain ⟨g21, egg21⟩ : ∃ z_ : Nat, X12_1.heap.size = z_ := ⟨_, rfl⟩
  refine rs_ 5 (fun a ee => ?_)
  refine stepV rfl rfl (execAlD rfl) ⟨.pointer (some ⟨g21, 0, none⟩), ⟨_, rfl, by subst egg21; rfl⟩, fun X12_2 hX => ?_⟩
  have bQ : Below X12_1.heap.size X12_1 X12_2 := by subst hX egg21; exact (belNew X12_1 _)
  have Fg21 : (X12_2.heap[g21]? = some (.cells (dC (.slice none 0 0) 0 false) 32)) := by subst hX egg21; exact heapNew X12_1 _
  have Fgeg21 : (V.heap.size ≤ g21) := by subst hX egg21; exact FS1.size
  have Fpg21 : (¬ fp1 g21) := by subst hX egg21; exact ge_off FR1 (Nat.le_refl _)
  have Fng21g4 : (g4 ≠ g21) := by subst hX egg21; exact Nat.ne_of_lt (Array.getElem?_eq_some_iff.1 Fg4).1
  have Fng21g6 : (g6 ≠ g21) := by subst hX egg21; exact Nat.ne_of_lt (Array.getElem?_eq_some_iff.1 Fg6).1
  replace FO := (ownD_below FO bQ)
  replace Fg4 := (on9 Fg4 bQ)
  replace Fg5 := (on9 Fg5 bQ)
  replace Fg6 := (on9 Fg6 bQ)
  replace FR1 := (I.on FR1 bQ)
  replace FS1 := (sv_on FS1 bQ)
  replace BB := BB.trans (bQ.mono BB.size)
  clear bQ hX egg21 ee a
  refine rs_ 6 (fun a ee => ?_)
  refine stepS rfl rfl (execStD rfl (ee _) (ee _) Fg21 (own_slq FO)) ⟨_, ⟨_, rfl, rfl⟩, fun X12 hX => ?_⟩
  obtain ⟨BB, FO, Fg4, Fg5, Fg6, FR1, FS1, Fg21s1⟩ : Below U.heap.size U X12 ∧ (X12.ownsRow U.heap.size 3 1 r n (intsL n z)) ∧ (X12.heap[g4]? = some (.cells (dC r ((k : Nat) : Int) false) 32)) ∧ (X12.heap[g5]? = some (.cells (xC kd d x) 34)) ∧ (X12.heap[g6]? = some (.cells (dC (.slice none 0 0) 0 false) 32)) ∧ (I.R X12 fp1 v (zI z) n k true) ∧ (Saved F V X12) ∧ (X12.heap[g21]? = some (.cells (dC r ((k : Nat) : Int) true) 32)) := by subst hX; exact ⟨below4 BB (Nat.le_trans hUV.size Fgeg21) _, (ownG_T FO Fg21 (by decide) grR18), (by rw [setRow_other _ _ _ _ Fng21g4]; exact Fg4), (keepT Fg5 Fg21 (by decide) grR18), (by rw [setRow_other _ _ _ _ Fng21g6]; exact Fg6), (dr_row FR1 Fpg21 _), (sv_row FS1 Fgeg21 _), setRow_heap _ _ _ _ _ _ Fg21⟩
  clear Fg21 hX ee a
  refine rf_ [(21, .pointer (some ⟨g21, 0, none⟩)), (22, .int .i64 ((0 : Nat) : Int))] (h2_ t6 t20) ?_
  rintro a A ⟨t21, t22, -⟩ ⟨t6, t20, -⟩
  refine wp_seq ?_
  refine wi_ A (h4_ t6 t21 t20 t22) (rv_ 0 (.agg (dC r ((k : Nat) : Int) true)) (fun a ee => execLdD rfl (ee _) Fg21s1) (rv_ 3 (.bool true) (fun a ee => execDec (exIeql3 (p := ((0 : Nat) : Int)) (q := ((0 : Nat) : Int)) rfl (ee _) (ee _)) (decide_eq_true rfl)) (rs_ 4 (fun a ee => ?_))))
  refine stepS rfl rfl (execStD rfl (ee _) (ee _) Fg6 (own_slq FO)) ⟨_, ⟨_, rfl, rfl⟩, fun X13 hX => ?_⟩
  obtain ⟨BB, FO, Fg4, Fg5, FR1, FS1, Fg21s1, Fg6s2⟩ : Below U.heap.size U X13 ∧ (X13.ownsRow U.heap.size 3 1 r n (intsL n z)) ∧ (X13.heap[g4]? = some (.cells (dC r ((k : Nat) : Int) false) 32)) ∧ (X13.heap[g5]? = some (.cells (xC kd d x) 34)) ∧ (I.R X13 fp1 v (zI z) n k true) ∧ (Saved F V X13) ∧ (X13.heap[g21]? = some (.cells (dC r ((k : Nat) : Int) true) 32)) ∧ (X13.heap[g6]? = some (.cells (dC r ((k : Nat) : Int) true) 32)) := by subst hX; exact ⟨below4 BB (Nat.le_trans hUV.size Fgeg6) _, (ownG_T FO Fg6 (by decide) grR18), (by rw [setRow_other _ _ _ _ Fng6g4]; exact Fg4), (keepT Fg5 Fg6 (by decide) grR18), (dr_row FR1 Fpg6 _), (sv_row FS1 Fgeg6 _), (by rw [setRow_other _ _ _ _ (Ne.symm Fng21g6)]; exact Fg21s1), setRow_heap _ _ _ _ _ _ Fg6⟩
  clear Fg6 hX ee a
  refine rf_ [(7, .bool true)] (h1_ t6) ?_
  rintro a A ⟨t7, -⟩ ⟨t6, -⟩
  refine wp_ret ?_
  repeat (first | with_reducible refine ret_in ?_ | with_reducible refine ret_then ?_)
  refine bodyPost_ret (res_c1 _ _ g6 32 _ (0, 0) _ Try.results9 t6 Fg6s2 Try.underlying32 rfl (sizeD _ _ _)) A.2 ⟨⟨fp1, r, z, n, true, ?_, ⟨FR1, FO⟩, hz, Frf, fun g hg => Or.inl hg, Fsub, FS1⟩, BB⟩
  show Ending.returned (.tuple #[.agg (dC r ((k : Nat) : Int) true), a.eval (.tmp 7)]) = _
  rw [t7]
set_option maxRecDepth 100000 in
set_option maxHeartbeats 4000000 in
/-- One call. -/
theorem ply_x (I : ImplI) (v r : Value) (F : Nat → Prop) (n k : Nat) (z : Nat → Int) (c : Bool) (kd d x : Int) (U V : World) (hUV : Below U.heap.size U V) (hR : I.R V F v (zI z) n k c) (own : V.ownsRow U.heap.size 3 1 r n (intsL n z)) (hr : ∀ g, r.ownBlock = some g → ¬ F g) (hz : ∀ j, j < n → I64 (z j)) (hk1 : ¬ kd = 1) (hk2 : ¬ kd = 2) (hk3 : ¬ kd = 3) :
    Calls Try.prog 9 #[v, .agg (dC r ((k : Nat) : Int) c), .agg (xC kd d x)] V fun e w' => Plyd I U V F v r k e w' ∧ Below U.heap.size U w' := by
  go_enter Try.func9, Try.ntmps9
  refine wo_ 97 [(0, v), (1, .agg (dC r ((k : Nat) : Int) c)), (2, .agg (xC kd d x))] ?_
  rintro a A ⟨t0, t1, t2, -⟩
  have BB := hUV
  have FR := hR
  have FO := own
  have FXs := Saved.refl F V
  refine wp_seq ?_
  obtain ⟨g4, egg4⟩ : ∃ z_ : Nat, V.heap.size = z_ := ⟨_, rfl⟩
  refine wi_ A (h3_ t0 t1 t2) (rs_ 0 (fun a ee => ?_))
  refine stepV rfl rfl (execBxD rfl (ee _) (own_slq FO)) ⟨.pointer (some ⟨g4, 0, none⟩), ⟨_, rfl, by subst egg4; rfl⟩, fun X0_1 hX => ?_⟩
  have bQ : Below V.heap.size V X0_1 := by subst hX egg4; exact (belNew V _)
  have Fg4 : (X0_1.heap[g4]? = some (.cells (dC r ((k : Nat) : Int) c) 32)) := by subst hX egg4; exact heapNew V _
  have Fgeg4 : (V.heap.size ≤ g4) := by subst hX egg4; exact FXs.size
  have Fog4 : (¬ F g4) := by subst hX egg4; exact ge_off FR (Nat.le_refl _)
  replace FR := (I.on FR bQ)
  replace FO := (ownD_below FO bQ)
  replace FXs := (sv_on FXs bQ)
  replace BB := BB.trans (bQ.mono BB.size)
  clear bQ hX egg4 ee a
  obtain ⟨g5, egg5⟩ : ∃ z_ : Nat, X0_1.heap.size = z_ := ⟨_, rfl⟩
  refine rs_ 1 (fun a ee => ?_)
  refine stepV rfl rfl (execBxX rfl (ee _)) ⟨.pointer (some ⟨g5, 0, none⟩), ⟨_, rfl, by subst egg5; rfl⟩, fun X0_2 hX => ?_⟩
  have bQ : Below X0_1.heap.size X0_1 X0_2 := by subst hX egg5; exact (belNew X0_1 _)
  have Fg5 : (X0_2.heap[g5]? = some (.cells (xC kd d x) 34)) := by subst hX egg5; exact heapNew X0_1 _
  have Fgeg5 : (V.heap.size ≤ g5) := by subst hX egg5; exact FXs.size
  have Fog5 : (¬ F g5) := by subst hX egg5; exact ge_off FR (Nat.le_refl _)
  replace FR := (I.on FR bQ)
  replace FO := (ownD_below FO bQ)
  replace FXs := (sv_on FXs bQ)
  replace Fg4 := (on9 Fg4 bQ)
  replace BB := BB.trans (bQ.mono BB.size)
  clear bQ hX egg5 ee a
  obtain ⟨g6, egg6⟩ : ∃ z_ : Nat, X0_2.heap.size = z_ := ⟨_, rfl⟩
  refine rs_ 2 (fun a ee => ?_)
  refine stepV rfl rfl (execAlD rfl) ⟨.pointer (some ⟨g6, 0, none⟩), ⟨_, rfl, by subst egg6; rfl⟩, fun X0 hX => ?_⟩
  have bQ : Below X0_2.heap.size X0_2 X0 := by subst hX egg6; exact (belNew X0_2 _)
  have Fg6 : (X0.heap[g6]? = some (.cells (dC (.slice none 0 0) 0 false) 32)) := by subst hX egg6; exact heapNew X0_2 _
  have Fgeg6 : (V.heap.size ≤ g6) := by subst hX egg6; exact FXs.size
  have Fog6 : (¬ F g6) := by subst hX egg6; exact ge_off FR (Nat.le_refl _)
  have Fng6g4 : (g4 ≠ g6) := by subst hX egg6; exact Nat.ne_of_lt (Array.getElem?_eq_some_iff.1 Fg4).1
  replace FR := (I.on FR bQ)
  replace FO := (ownD_below FO bQ)
  replace FXs := (sv_on FXs bQ)
  replace Fg4 := (on9 Fg4 bQ)
  replace Fg5 := (on9 Fg5 bQ)
  replace BB := BB.trans (bQ.mono BB.size)
  clear bQ hX egg6 ee a
  refine rf_ [(4, .pointer (some ⟨g4, 0, none⟩)), (5, .pointer (some ⟨g5, 0, none⟩)), (6, .pointer (some ⟨g6, 0, none⟩))] (h1_ t0) ?_
  rintro a A ⟨t4, t5, t6, -⟩ ⟨t0, -⟩
  refine wp_seq ?_
  refine wp_seq ?_
  refine wi_ A (h4_ t0 t4 t5 t6) (rv_ 0 (.pointer (some ⟨g5, 0, none⟩)) (fun a ee => execFx0 rfl (ee _)) (rv_ 1 (.int .i64 kd) (fun a ee => execLd1 rfl (Or.inr (Or.inl rfl)) (ee _) (xC_at Fg5).1) (rf_ [(24, .int .i64 kd)] (h4_ t0 t4 t5 t6) ?_)))
  rintro a A ⟨t24, -⟩ ⟨t0, t4, t5, t6, -⟩
  refine wp_block ?_
  refine wp_seq ?_
  refine wi_ A (h5_ t0 t4 t5 t6 t24) (rv_ 0 (.bool false) (fun a ee => execDec (exIeql3 (p := kd) (q := 1) rfl (ee _) rfl) (decide_eq_false hk1)) (rf_ [(25, .bool false)] (h5_ t0 t4 t5 t6 t24) ?_))
  rintro a A ⟨t25, -⟩ ⟨t0, t4, t5, t6, t24, -⟩
  refine wp_cond_false t25 ?_
  clear t25
  refine wp_seq ?_
  refine wi_ A (h5_ t0 t4 t5 t6 t24) (rv_ 0 (.bool false) (fun a ee => execDec (exIeql3 (p := kd) (q := 2) rfl (ee _) rfl) (decide_eq_false hk2)) (rf_ [(51, .bool false)] (h5_ t0 t4 t5 t6 t24) ?_))
  rintro a A ⟨t51, -⟩ ⟨t0, t4, t5, t6, t24, -⟩
  refine wp_cond_false t51 ?_
  clear t51
  refine wp_seq ?_
  refine wi_ A (h5_ t0 t4 t5 t6 t24) (rv_ 0 (.bool false) (fun a ee => execDec (exIeql3 (p := kd) (q := 3) rfl (ee _) rfl) (decide_eq_false hk3)) (rf_ [(80, .bool false)] (h5_ t0 t4 t5 t6 t24) ?_))
  rintro a A ⟨t80, -⟩ ⟨t0, t4, t5, t6, t24, -⟩
  refine wp_cond_false t80 ?_
  clear t80
  refine wp_skip ?_
  refine wp_seq ?_
  refine wj_ [0, 1, 2, 3, 4, 5] [3, 4] [0, 2] [4] A (h5_ t0 t4 t5 t6 t24) (fun X14_0 bD => ?_)
  refine dv_ 0 (.agg (dC r ((k : Nat) : Int) c)) (fun a X ee hb => execLdD rfl (ee _) (on9 Fg4 hb)) (dv_ 2 (.agg (dC r ((k : Nat) : Int) c)) (fun a X ee hb => execLdD rfl (ee _) (on9 Fg4 hb)) (dc_ 3 (told_any I v r F (zI z) n k U.heap.size c z X14_0 (I.on FR bD) (ownD_below FO bD)) (cb_ fun X14_1 bQ => ?_)))
  replace bD := bD.trans (bQ.mono bD.size)
  clear bQ
  refine ⟨Or.inr bD, ?_⟩
  refine ds_ 4 (fun a ee => ?_)
  refine stepS rfl rfl (execStD rfl (ee _) (ee _) (on9 Fg6 bD) (own_slq (ownD_below FO bD))) ⟨_, ⟨_, rfl, rfl⟩, fun X14 hX => ?_⟩
  obtain ⟨BB, FR, FO, FXs, Fg4, Fg5, Fg6s1⟩ : Below U.heap.size U X14 ∧ (I.R X14 F v (zI z) n k c) ∧ (X14.ownsRow U.heap.size 3 1 r n (intsL n z)) ∧ (Saved F V X14) ∧ (X14.heap[g4]? = some (.cells (dC r ((k : Nat) : Int) c) 32)) ∧ (X14.heap[g5]? = some (.cells (xC kd d x) 34)) ∧ (X14.heap[g6]? = some (.cells (dC r ((k : Nat) : Int) c) 32)) := by subst hX; exact ⟨below4 (BB.trans (bD.mono BB.size)) (Nat.le_trans hUV.size Fgeg6) _, (dr_row (I.on FR bD) Fog6 _), (ownG_T (ownD_below FO bD) (on9 Fg6 bD) (by decide) grR18), (sv_row (sv_on FXs bD) Fgeg6 _), (by rw [setRow_other _ _ _ _ Fng6g4]; exact (on9 Fg4 bD)), (keepT (on9 Fg5 bD) (on9 Fg6 bD) (by decide) grR18), setRow_heap _ _ _ _ _ _ (on9 Fg6 bD)⟩
  clear bD Fg6 hX ee a
  refine ⟨Or.inl rfl, ?_⟩
  refine dz_ [(7, .bool true)] (h1_ t6) ?_
  rintro a A ⟨t7, -⟩ ⟨t6, -⟩
  refine wp_ret ?_
  refine bodyPost_ret (res_c1 _ _ g6 32 _ (0, 0) _ Try.results9 t6 Fg6s1 Try.underlying32 rfl (sizeD _ _ _)) A.2 ⟨⟨F, r, z, n, c, ?_, ⟨FR, FO⟩, hz, hr, fun g hg => Or.inl hg, fun q h => Or.inl h, FXs⟩, BB⟩
  show Ending.returned (.tuple #[.agg (dC r ((k : Nat) : Int) c), a.eval (.tmp 7)]) = _
  rw [t7]
theorem played_any (I : ImplI) (v r : Value) (F : Nat → Prop) (n k : Nat) (z : Nat → Int) (c : Bool) (kd d x : Int) (U V : World) (hUV : Below U.heap.size U V) (hR : I.R V F v (zI z) n k c) (own : V.ownsRow U.heap.size 3 1 r n (intsL n z)) (hF : ∀ q, F q → U.heap.size ≤ q) (hr : ∀ g, r.ownBlock = some g → ¬ F g) (hz : ∀ j, j < n → I64 (z j)) (hx : I64 x) :
    Calls Try.prog 9 #[v, .agg (dC r ((k : Nat) : Int) c), .agg (xC kd d x)] V fun e w' => Plyd I U V F v r k e w' ∧ Below U.heap.size U w' := by
  by_cases h1 : kd = 1
  · cases c with
    | true => exact ply_pc I v r F n k z kd d x U V hUV hR own hF hr hz h1 hx
    | false =>
      by_cases hf : n < k
      · exact ply_po I v r F n k z kd d x U V hUV hR own hF hr hz h1 hx hf
      · exact ply_pf I v r F n k z kd d x U V hUV hR own hF hr hz h1 hx hf
  · by_cases h2 : kd = 2
    · by_cases h0 : 0 < n
      · exact ply_to I v r F n k z kd d x U V c hUV hR own hF hr hz h2 h0
      · cases c with
        | true => exact ply_tc I v r F n k z kd d x U V hUV hR own hF hr hz h2 (by omega)
        | false => exact ply_te I v r F n k z kd d x U V hUV hR own hF hr hz h2 (by omega)
    · by_cases h3 : kd = 3
      · cases c with
        | true => exact ply_cc I v r F n k z kd d x U V hUV hR own hF hr hz h3
        | false => exact ply_co I v r F n k z kd d x U V hUV hR own hF hr hz h3
      · exact ply_x I v r F n k z c kd d x U V hUV hR own hr hz h1 h2 h3
end Go.Proofs.Ytialghojibjknaa.Duc
