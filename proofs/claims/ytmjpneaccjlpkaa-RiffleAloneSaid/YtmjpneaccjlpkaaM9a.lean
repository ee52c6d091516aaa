import Derived.Test.YtmjpneaccjlpkaaF9b
import Derived.Test.YtmjpneaccjlpkaaF9a
import Derived.Test.YtmjpneaccjlpkaaP9h
namespace Go.Proofs.Ytmjpneaccjlpkaa.Prm
open Go.RowKit Gf8 Aes By8 Cel Cf Tap Drw
/- Package perm as it landed: Check, Identity, drawsFor, Bounds, places, taken of ints, areBelow, countBelow. Written by tools/mkM9a.py. -/
theorem own_fill {W : World} {B n g cap i : Nat} {F : Nat → Int} {z : Int} (h : W.ownsRow B 3 1 (.slice (some ⟨g, 0, none⟩) n cap) n (intsL n (fun j => if j < i then F j else 0))) (e : z = F i) : (W.setCell ⟨g, 0 + i, none⟩ (.int .i64 z)).ownsRow B 3 1 (.slice (some ⟨g, 0, none⟩) n cap) n (intsL n (fun j => if j < (i + 1) then F j else 0)) := by
 have h2 := own_setF (k := i) z h
 rw [intsL_congr (g := fun j => if j < (i + 1) then F j else 0) (fun j _ => ?_)] at h2
 ·exact h2
 ·by_cases q : j = i
  ·subst q
   rw [if_pos rfl, if_pos (by omega), e]
  ·rw [if_neg q]
   by_cases q2 : j < i
   ·rw [if_pos q2, if_pos (by omega)]
   ·rw [if_neg q2, if_neg (by omega)]
theorem execMax0 {o : Oper} {a : Act} {w : World} {x : Operand} {k : Int} {n : Nat} (ho : o.op = .call { callee := .builtin .max, args := #[x, .const (.int .i64 0)], argTypes := #[3, 3] }) (hx : a.eval x = .int .i64 k) (hn : k.toNat = n) : (execOp a.eval o).run Try.prog w = .ok (.value (.int .i64 (n : Int))) w := by
 subst hn
 unfold execOp
 simp only [ho, resolve, invoke, builtin, List.map_toArray, List.map_cons, List.map_nil, hx]
 simp [go_sem]
 split <;> omega
set_option maxRecDepth 100000 in
set_option maxHeartbeats 4000000 in
theorem pcheck (f : Nat → Int) (n : Nat) (v : Value) (V : World) (hv : SliceI V v n f) (hn : n ≤ 17592186044416) :
  Calls Try.prog 17 #[v] V fun e w' => e = .returned (.int .i64 ((pE f n : Nat) : Int)) ∧ Below V.heap.size V w' := by
 obtain ⟨ia, ic, rfl, -, -, hsh⟩ := id hv.shape
 have FI := hv
 go_enter Try.func17, Try.ntmps17
 refine wp_seq ?_
 refine wo_ 33 [(0, .slice ia n ic)] ?_
 rintro a A ⟨t0, -⟩
 refine wi_ A (h1_ t0) (rf_ [] (h1_ t0) ?_)
 rintro a A - ⟨t0, -⟩
 have BW : Below V.heap.size V V := Below.refl _ _
 have BB := BW
 refine wp_seq ?_
 obtain ⟨g3, egg3⟩ : ∃ z_ : Nat, V.heap.size = z_ := ⟨_, rfl⟩
 refine wi_ A (h1_ t0) (rv_ 1 (.int .i64 ((n : Nat) : Int)) (fun a e => execLenI (len := n) rfl (e _) ((FI.on BB)).shp) (rs_ 2 (fun a e => ?_)))
 refine stepV rfl rfl (execMkBl rfl (e _) (e _) (by omega)) ⟨.slice (some ⟨g3, 0, none⟩) n n, ⟨_, rfl, by subst egg3; rfl⟩, fun X1 hX => ?_⟩
 have bQ : Below V.heap.size V X1 := by subst hX egg3; exact (belNew V _)
 have FXs : (X1.ownsRow V.heap.size 4 1 (.slice (some ⟨g3, 0, none⟩) n n) (n) (boolsL (n) (fun j => inI f (j : Int) 0))) := by subst hX egg3; exact ownD_base (own_mkBl V n _ (by omega) (fun _ _ => rfl)) (BB).size
 have Fg : (V.heap.size ≤ g3) := by subst hX egg3; exact (BB).size
 replace BB := BB.trans (bQ.mono BB.size)
 clear bQ hX egg3 e a
 refine rf_ [(3, .slice (some ⟨g3, 0, none⟩) n n)] (h1_ t0) ?_
 rintro a A ⟨t3, -⟩ ⟨t0, -⟩
 refine wp_seq (wp_seq ?_)
 refine wi_ A (h2_ t0 t3) (rv_ 1 (.int .i64 ((n : Nat) : Int)) (fun a e => execLenI (len := n) rfl (e _) ((FI.on BB)).shp) (rf_ [(9, .slice ia n ic), (10, .int .i64 ((n : Nat) : Int)), (11, .int .i64 ((0 : Nat) : Int))] (h2_ t0 t3) ?_))
 rintro a A ⟨t9, t10, t11, -⟩ ⟨t0, t3, -⟩
 refine wp_block ?_
 refine wp_loop (fun a W => ∃ (i : Nat), i ≤ n ∧ (okQ f n i = true) ∧ (a.tmps.size = 33 ∧ a.defers = []) ∧ a.eval (.tmp 0) = .slice ia n ic ∧ a.eval (.tmp 3) = .slice (some ⟨g3, 0, none⟩) n n ∧ a.eval (.tmp 9) = .slice ia n ic ∧ a.eval (.tmp 10) = .int .i64 ((n : Nat) : Int) ∧ a.eval (.tmp 11) = .int .i64 ((i : Nat) : Int) ∧ Below V.heap.size V W ∧ (W.ownsRow V.heap.size 4 1 (.slice (some ⟨g3, 0, none⟩) n n) (n) (boolsL (n) (fun j => inI f (j : Int) i)))) (fun a _ => n - (intOf (a.eval (.tmp 11))).toNat) ⟨0, Nat.zero_le _, rfl, A, t0, t3, t9, t10, t11, BB, FXs⟩ ?_
 rintro a XL3 ⟨i, hi, hok, A, t0, t3, t9, t10, t11, BB, FXs⟩
 have es := t11
 refine wp_seq ?_
 refine wi_ A (h5_ t0 t3 t9 t10 t11) (rv_ 0 (.bool (decide (i < n))) (fun a e => execLtW (p := i) (q := n) rfl (e _) (e _)) (rf_ [(12, .bool (decide (i < n)))] (h5_ t0 t3 t9 t10 t11) ?_))
 rintro a A ⟨t12, -⟩ ⟨t0, t3, t9, t10, t11, -⟩
 refine wp_seq ?_
 by_cases hlt : i < n
 ·rw [decide_eq_true hlt] at t12
  refine wp_cond_true t12 (wp_skip ?_)
  clear t12
  refine wp_seq (wp_block ?_)
  obtain ⟨ib, io, rfl, hib, hcell⟩ := hsh (by omega)
  have cI : ∀ k, k < n → ∀ X, Below V.heap.size V X → X.cell? ⟨ib, io + k, none⟩ = some (.int .i64 (f k)) := fun k hk X hX => by rw [cell_below hX hib]; exact hcell k hk
  by_cases h1 : f i < 0
  ·refine wp_seq ?_
   refine wi_ A (h5_ t0 t3 t9 t10 t11) (rv_ 0 (.pointer (some ⟨ib, io + i, none⟩)) (fun a e => execIdxN (k := i) rfl (e _) (e _) hlt) (rv_ 1 (.int .i64 (f i)) (fun a e => execLd3 rfl (e _) (cI i hlt XL3 BB)) (rf_ [(5, .int .i64 (f i))] (h5_ t0 t3 t9 t10 t11) ?_)))
   rintro a A ⟨t5, -⟩ ⟨t0, t3, t9, t10, t11, -⟩
   refine wp_seq (wp_seq ?_)
   refine wi_ A (h6_ t0 t3 t9 t10 t11 t5) (rv_ 1 (.bool true) (fun a e => execLtCt (p := (f i)) (q := 0) rfl (e _) (by exact h1)) (rf_ [(28, .bool true)] (h6_ t0 t3 t9 t10 t11 t5) ?_))
   rintro a A ⟨t28, -⟩ ⟨t0, t3, t9, t10, t11, t5, -⟩
   refine wp_cond_true t28 ?_
   refine wp_seq ?_
   refine wi_ A (h7_ t0 t3 t9 t10 t11 t5 t28) (rg_ [(2, .int .i64 ((110 : Nat) : Int))] ?_)
   rintro a A ⟨t2, -⟩
   have hE : pE f n = 110 := pE_bad hlt (Or.inl h1)
   rw [hE]
   refine wp_ret ?_
   repeat (first | with_reducible refine ret_in ?_ | with_reducible refine ret_then ?_)
   refine bodyPost_ret (results_tmp rfl _ _ _) A.2 ⟨?_, BB⟩
   show Ending.returned (a.eval (.tmp 2)) = _
   rw [t2]
  ·by_cases h2 : (n : Int) ≤ f i
   ·obtain ⟨w, ew⟩ : ∃ w : Nat, f i = w := ⟨(f i).toNat, by omega⟩
    have cW : ∀ X, Below V.heap.size V X → X.cell? ⟨ib, io + i, none⟩ = some (.int .i64 ((w : Nat) : Int)) := fun X hX => by rw [cI i hlt X hX, ew]
    refine wp_seq ?_
    refine wi_ A (h5_ t0 t3 t9 t10 t11) (rv_ 0 (.pointer (some ⟨ib, io + i, none⟩)) (fun a e => execIdxN (k := i) rfl (e _) (e _) hlt) (rv_ 1 (.int .i64 ((w : Nat) : Int)) (fun a e => execLd3 rfl (e _) (cW XL3 BB)) (rf_ [(5, .int .i64 ((w : Nat) : Int))] (h5_ t0 t3 t9 t10 t11) ?_)))
    rintro a A ⟨t5, -⟩ ⟨t0, t3, t9, t10, t11, -⟩
    refine wp_seq (wp_seq ?_)
    refine wi_ A (h6_ t0 t3 t9 t10 t11 t5) (rv_ 1 (.bool false) (fun a e => execDec (execLtW (p := w) (q := 0) rfl (e _) rfl) (decide_eq_false (by omega))) (rv_ 5 (.int .i64 ((n : Nat) : Int)) (fun a e => execLenI (len := n) rfl (e _) ((FI.on BB)).shp) (rv_ 6 (.bool true) (fun a e => execDec (execGe8 (p := w) (q := n) rfl (e _) (e _)) (decide_eq_true (by omega))) (rf_ [(28, .bool true)] (h6_ t0 t3 t9 t10 t11 t5) ?_))))
    rintro a A ⟨t28, -⟩ ⟨t0, t3, t9, t10, t11, t5, -⟩
    refine wp_cond_true t28 ?_
    refine wp_seq ?_
    refine wi_ A (h7_ t0 t3 t9 t10 t11 t5 t28) (rg_ [(2, .int .i64 ((110 : Nat) : Int))] ?_)
    rintro a A ⟨t2, -⟩
    have hE : pE f n = 110 := pE_bad hlt (Or.inr (Or.inl (by omega)))
    rw [hE]
    refine wp_ret ?_
    repeat (first | with_reducible refine ret_in ?_ | with_reducible refine ret_then ?_)
    refine bodyPost_ret (results_tmp rfl _ _ _) A.2 ⟨?_, BB⟩
    show Ending.returned (a.eval (.tmp 2)) = _
    rw [t2]
   ·by_cases h3 : inI f (f i) i = true
    ·obtain ⟨w, ew⟩ : ∃ w : Nat, f i = w := ⟨(f i).toNat, by omega⟩
     have cW : ∀ X, Below V.heap.size V X → X.cell? ⟨ib, io + i, none⟩ = some (.int .i64 ((w : Nat) : Int)) := fun X hX => by rw [cI i hlt X hX, ew]
     have hw : w < n := by omega
     have hsn : inI f (w : Int) i = true := by rw [← ew]; exact h3
     refine wp_seq ?_
     refine wi_ A (h5_ t0 t3 t9 t10 t11) (rv_ 0 (.pointer (some ⟨ib, io + i, none⟩)) (fun a e => execIdxN (k := i) rfl (e _) (e _) hlt) (rv_ 1 (.int .i64 ((w : Nat) : Int)) (fun a e => execLd3 rfl (e _) (cW XL3 BB)) (rf_ [(5, .int .i64 ((w : Nat) : Int))] (h5_ t0 t3 t9 t10 t11) ?_)))
     rintro a A ⟨t5, -⟩ ⟨t0, t3, t9, t10, t11, -⟩
     refine wp_seq (wp_seq ?_)
     refine wi_ A (h6_ t0 t3 t9 t10 t11 t5) (rv_ 1 (.bool false) (fun a e => execDec (execLtW (p := w) (q := 0) rfl (e _) rfl) (decide_eq_false (by omega))) (rv_ 5 (.int .i64 ((n : Nat) : Int)) (fun a e => execLenI (len := n) rfl (e _) ((FI.on BB)).shp) (rv_ 6 (.bool false) (fun a e => execDec (execGe8 (p := w) (q := n) rfl (e _) (e _)) (decide_eq_false (by omega))) (rv_ 11 (.pointer (some ⟨g3, 0 + w, none⟩)) (fun a e => execIdxBl (k := w) rfl (e _) (e _) hw) (rv_ 12 (.bool true) (fun a e => execLdBl rfl (e _) (by rw [(own_cellBl FXs hw).1, hsn])) (rf_ [(28, .bool true)] (h6_ t0 t3 t9 t10 t11 t5) ?_))))))
     rintro a A ⟨t28, -⟩ ⟨t0, t3, t9, t10, t11, t5, -⟩
     refine wp_cond_true t28 ?_
     refine wp_seq ?_
     refine wi_ A (h7_ t0 t3 t9 t10 t11 t5 t28) (rg_ [(2, .int .i64 ((110 : Nat) : Int))] ?_)
     rintro a A ⟨t2, -⟩
     have hE : pE f n = 110 := pE_bad hlt (Or.inr (Or.inr h3))
     rw [hE]
     refine wp_ret ?_
     repeat (first | with_reducible refine ret_in ?_ | with_reducible refine ret_then ?_)
     refine bodyPost_ret (results_tmp rfl _ _ _) A.2 ⟨?_, BB⟩
     show Ending.returned (a.eval (.tmp 2)) = _
     rw [t2]
    ·obtain ⟨w, ew⟩ : ∃ w : Nat, f i = w := ⟨(f i).toNat, by omega⟩
     have cW : ∀ X, Below V.heap.size V X → X.cell? ⟨ib, io + i, none⟩ = some (.int .i64 ((w : Nat) : Int)) := fun X hX => by rw [cI i hlt X hX, ew]
     have hw : w < n := by omega
     have hsn : inI f (w : Int) i = false := by rw [← ew]; exact Bool.eq_false_iff.2 h3
     refine wp_seq ?_
     refine wi_ A (h5_ t0 t3 t9 t10 t11) (rv_ 0 (.pointer (some ⟨ib, io + i, none⟩)) (fun a e => execIdxN (k := i) rfl (e _) (e _) hlt) (rv_ 1 (.int .i64 ((w : Nat) : Int)) (fun a e => execLd3 rfl (e _) (cW XL3 BB)) (rf_ [(5, .int .i64 ((w : Nat) : Int))] (h5_ t0 t3 t9 t10 t11) ?_)))
     rintro a A ⟨t5, -⟩ ⟨t0, t3, t9, t10, t11, -⟩
     refine wp_seq (wp_seq ?_)
     refine wi_ A (h6_ t0 t3 t9 t10 t11 t5) (rv_ 1 (.bool false) (fun a e => execDec (execLtW (p := w) (q := 0) rfl (e _) rfl) (decide_eq_false (by omega))) (rv_ 5 (.int .i64 ((n : Nat) : Int)) (fun a e => execLenI (len := n) rfl (e _) ((FI.on BB)).shp) (rv_ 6 (.bool false) (fun a e => execDec (execGe8 (p := w) (q := n) rfl (e _) (e _)) (decide_eq_false (by omega))) (rv_ 11 (.pointer (some ⟨g3, 0 + w, none⟩)) (fun a e => execIdxBl (k := w) rfl (e _) (e _) hw) (rv_ 12 (.bool false) (fun a e => execLdBl rfl (e _) (by rw [(own_cellBl FXs hw).1, hsn])) (rf_ [(28, .bool false)] (h6_ t0 t3 t9 t10 t11 t5) ?_))))))
     rintro a A ⟨t28, -⟩ ⟨t0, t3, t9, t10, t11, t5, -⟩
     refine wp_cond_false t28 (wp_skip ?_)
     clear t28
     refine wi_ A (h6_ t0 t3 t9 t10 t11 t5) (rv_ 2 (.pointer (some ⟨g3, 0 + w, none⟩)) (fun a e => execIdxBl (k := w) rfl (e _) (e _) hw) (rs_ 3 (fun a e => ?_)))
     obtain ⟨hc_, hf_⟩ := own_cellBl FXs hw
     refine stepS rfl rfl (execStBl rfl (e _) rfl hc_ hf_) ⟨_, ⟨_, rfl, rfl⟩, fun X7 hX => ?_⟩
     obtain ⟨BB, FS2⟩ : Below V.heap.size V X7 ∧ (X7.ownsRow V.heap.size 4 1 (.slice (some ⟨g3, 0, none⟩) n n) (n) (boolsL (n) (fun j => inI f (j : Int) (i + 1)))) := by subst hX; exact ⟨(BB).setCell Fg _, seen_set FXs ew⟩
     clear FXs hX e a
     refine rf_ [] (h5_ t0 t3 t9 t10 t11) ?_
     rintro a A - ⟨t0, t3, t9, t10, t11, -⟩
     refine wi_ A (h5_ t0 t3 t9 t10 t11) (rv_ 0 (.int .i64 ((i + 1 : Nat) : Int)) (fun a e => execAd8 (p := i) (q := 1) rfl (e _) rfl (by omega)) (rf_ [(11, .int .i64 ((i + 1 : Nat) : Int))] (h4_ t0 t3 t9 t10) ?_))
     rintro a A ⟨t11, -⟩ ⟨t0, t3, t9, t10, -⟩
     exact ⟨⟨i + 1, hlt, okQ_succ hok h1 h2 h3, A, t0, t3, t9, t10, t11, BB, FS2⟩, by show n - (intOf (a.eval (.tmp 11))).toNat < n - (intOf (Act.eval _ (.tmp 11))).toNat; rw [t11, es]; show n - (i + 1) < n - i; omega⟩
 ·rw [decide_eq_false hlt] at t12
  refine wp_cond_false t12 ?_
  refine wp_exit ?_
  first | with_reducible refine exit_in ?_ | with_reducible refine exit_then (exit_in ?_) | with_reducible refine exit_then (exit_then (exit_in ?_)) | refine exit_in ?_ | refine exit_then (exit_in ?_) | refine exit_then (exit_then (exit_in ?_))
  clear t12 es
  have hin : i = n := by omega
  rw [hin] at hok
  have hE : pE f n = 0 := if_pos hok
  rw [hE]
  clear FXs
  refine wp_seq ?_
  refine wi_ A (h5_ t0 t3 t9 t10 t11) (rg_ [(2, .int .i64 ((0 : Nat) : Int))] ?_)
  rintro a A ⟨t2, -⟩
  refine wp_ret ?_
  repeat (first | with_reducible refine ret_in ?_ | with_reducible refine ret_then ?_)
  refine bodyPost_ret (results_tmp rfl _ _ _) A.2 ⟨?_, BB⟩
  show Ending.returned (a.eval (.tmp 2)) = _
  rw [t2]
set_option maxRecDepth 100000 in
set_option maxHeartbeats 4000000 in
theorem pident (k : Int) (V : World) (hk : k ≤ 17592186044416) :
  Calls Try.prog 77 #[.int .i64 k] V fun e w' => ∃ r, e = .returned r ∧ w'.ownsRow V.heap.size 3 1 r k.toNat (intsL k.toNat (fun j => (j : Int))) ∧ Below V.heap.size V w' := by
 obtain ⟨n, hkn⟩ : ∃ n, k.toNat = n := ⟨_, rfl⟩
 have hn17 : n ≤ 17592186044416 := by omega
 rw [hkn]
 go_enter Try.func77, Try.ntmps77
 refine wp_seq ?_
 refine wo_ 19 [(0, .int .i64 k)] ?_
 rintro a A ⟨t0, -⟩
 refine wi_ A (h1_ t0) (rf_ [] (h1_ t0) ?_)
 rintro a A - ⟨t0, -⟩
 have BW : Below V.heap.size V V := Below.refl _ _
 have BB := BW
 refine wp_seq ?_
 obtain ⟨g3, egg3⟩ : ∃ z_ : Nat, V.heap.size = z_ := ⟨_, rfl⟩
 refine wi_ A (h1_ t0) (rv_ 1 (.int .i64 ((n : Nat) : Int)) (fun a e => execMax0 rfl (e _) hkn) (rs_ 2 (fun a e => ?_)))
 refine stepV rfl rfl (execMkN rfl (e _) (e _) hn17) ⟨.slice (some ⟨g3, 0, none⟩) n n, ⟨_, rfl, by subst egg3; rfl⟩, fun X1 hX => ?_⟩
 have bQ : Below V.heap.size V X1 := by subst hX egg3; exact (belNew V _)
 have FO : (X1.ownsRow V.heap.size 3 1 (.slice (some ⟨g3, 0, none⟩) n n) (n) (intsL (n) (fun j => if j < 0 then (j : Int) else 0))) := by subst hX egg3; exact ownD_base (own_mkZ V n _ hn17 (fun j_ _ => if_neg (Nat.not_lt_zero _))) (BB).size
 have Fg : (V.heap.size ≤ g3) := by subst hX egg3; exact (BB).size
 replace BB := BB.trans (bQ.mono BB.size)
 clear bQ hX egg3 e a
 refine rg_ [(3, .slice (some ⟨g3, 0, none⟩) n n)] ?_
 rintro a A ⟨t3, -⟩
 refine wp_seq (wp_seq ?_)
 refine wi_ A (h1_ t3) (rv_ 1 (.int .i64 ((n : Nat) : Int)) (fun a e => execLenI (len := n) rfl (e _) (shpO FO)) (rf_ [(9, .int .i64 ((n : Nat) : Int)), (10, .int .i64 ((0 : Nat) : Int))] (h1_ t3) ?_))
 rintro a A ⟨t9, t10, -⟩ ⟨t3, -⟩
 refine wp_block ?_
 refine wp_loop (fun a W => ∃ (i : Nat), i ≤ n ∧ (a.tmps.size = 19 ∧ a.defers = []) ∧ a.eval (.tmp 3) = .slice (some ⟨g3, 0, none⟩) n n ∧ a.eval (.tmp 9) = .int .i64 ((n : Nat) : Int) ∧ a.eval (.tmp 10) = .int .i64 ((i : Nat) : Int) ∧ Below V.heap.size V W ∧ (W.ownsRow V.heap.size 3 1 (.slice (some ⟨g3, 0, none⟩) n n) (n) (intsL (n) (fun j => if j < i then (j : Int) else 0)))) (fun a _ => n - (intOf (a.eval (.tmp 10))).toNat) ⟨0, Nat.zero_le _, A, t3, t9, t10, BB, FO⟩ ?_
 rintro a XL3 ⟨i, hi, A, t3, t9, t10, BB, FO⟩
 have es := t10
 refine wp_seq ?_
 refine wi_ A (h3_ t3 t9 t10) (rv_ 0 (.bool (decide (i < n))) (fun a e => execLtW (p := i) (q := n) rfl (e _) (e _)) (rf_ [(11, .bool (decide (i < n)))] (h3_ t3 t9 t10) ?_))
 rintro a A ⟨t11, -⟩ ⟨t3, t9, t10, -⟩
 refine wp_seq ?_
 by_cases hlt : i < n
 ·rw [decide_eq_true hlt] at t11
  refine wp_cond_true t11 (wp_skip ?_)
  clear t11
  refine wp_seq (wp_block ?_)
  refine wp_seq ?_
  refine wi_ A (h3_ t3 t9 t10) (rf_ [(4, .int .i64 ((i : Nat) : Int))] (h3_ t3 t9 t10) ?_)
  rintro a A ⟨t4, -⟩ ⟨t3, t9, t10, -⟩
  refine wi_ A (h4_ t3 t9 t10 t4) (rv_ 3 (.pointer (some ⟨g3, 0 + i, none⟩)) (fun a e => execIdxN (k := i) rfl (e _) (e _) hlt) (rs_ 4 (fun a e => ?_)))
  obtain ⟨hc_, hf_⟩ := own_cellI FO hlt
  refine stepS rfl rfl (execStI9 rfl (e _) (e _) hc_ hf_) ⟨_, ⟨_, rfl, rfl⟩, fun X5 hX => ?_⟩
  obtain ⟨BB, FO2⟩ : Below V.heap.size V X5 ∧ (X5.ownsRow V.heap.size 3 1 (.slice (some ⟨g3, 0, none⟩) n n) (n) (intsL (n) (fun j => if j < (i + 1) then (j : Int) else 0))) := by subst hX; exact ⟨(BB).setCell Fg _, own_fill FO rfl⟩
  clear FO hX e a
  refine rf_ [] (h3_ t3 t9 t10) ?_
  rintro a A - ⟨t3, t9, t10, -⟩
  refine wi_ A (h3_ t3 t9 t10) (rv_ 0 (.int .i64 ((i + 1 : Nat) : Int)) (fun a e => execAd8 (p := i) (q := 1) rfl (e _) rfl (by omega)) (rf_ [(10, .int .i64 ((i + 1 : Nat) : Int))] (h2_ t3 t9) ?_))
  rintro a A ⟨t10, -⟩ ⟨t3, t9, -⟩
  exact ⟨⟨i + 1, hlt, A, t3, t9, t10, BB, FO2⟩, by show n - (intOf (a.eval (.tmp 10))).toNat < n - (intOf (Act.eval _ (.tmp 10))).toNat; rw [t10, es]; show n - (i + 1) < n - i; omega⟩
 ·rw [decide_eq_false hlt] at t11
  refine wp_cond_false t11 ?_
  refine wp_exit ?_
  first | with_reducible refine exit_in ?_ | with_reducible refine exit_then (exit_in ?_) | with_reducible refine exit_then (exit_then (exit_in ?_)) | refine exit_in ?_ | refine exit_then (exit_in ?_) | refine exit_then (exit_then (exit_in ?_))
  clear t11 es
  have hin : i = n := by omega
  rw [hin] at FO
  rw [intsL_congr (g := fun j => (j : Int)) (fun j hj => if_pos hj)] at FO
  refine wp_seq ?_
  refine wi_ A (h3_ t3 t9 t10) (rg_ [(2, .slice (some ⟨g3, 0, none⟩) n n)] ?_)
  rintro a A ⟨t2, -⟩
  refine wp_ret ?_
  refine bodyPost_ret (results_tmp rfl _ _ _) A.2 ⟨_, ?_, FO, BB⟩
  show Ending.returned (a.eval (.tmp 2)) = _
  rw [t2]
set_option maxRecDepth 100000 in
set_option maxHeartbeats 4000000 in
theorem pdrawsFor (k : Int) (V : World) (hk : k < 9223372036854775808) :
  Calls Try.prog 75 #[.int .i64 k] V fun e w' => e = .returned (.int .i64 (((k - 1).toNat : Nat) : Int)) ∧ Below V.heap.size V w' := by
 go_enter Try.func75, Try.ntmps75
 refine wp_seq ?_
 refine wo_ 7 [(0, .int .i64 k)] ?_
 rintro a A ⟨t0, -⟩
 refine wi_ A (h1_ t0) (rf_ [] (h1_ t0) ?_)
 rintro a A - ⟨t0, -⟩
 have BW : Below V.heap.size V V := Below.refl _ _
 have BB := BW
 refine wp_seq (wp_seq ?_)
 by_cases h1 : k < 2
 ·refine wi_ A (h1_ t0) (rv_ 1 (.bool true) (fun a e => execLtCt (p := k) (q := 2) rfl (e _) (by exact h1)) (rf_ [(4, .bool true)] (h1_ t0) ?_))
  rintro a A ⟨t4, -⟩ ⟨t0, -⟩
  refine wp_cond_true t4 ?_
  refine wp_seq ?_
  refine wi_ A (h1_ t0) (rg_ [(2, .int .i64 ((0 : Nat) : Int))] ?_)
  rintro a A ⟨t2, -⟩
  have hE : (k - 1).toNat = 0 := by omega
  rw [hE]
  refine wp_ret ?_
  repeat (first | with_reducible refine ret_in ?_ | with_reducible refine ret_then ?_)
  refine bodyPost_ret (results_tmp rfl _ _ _) A.2 ⟨?_, BB⟩
  show Ending.returned (a.eval (.tmp 2)) = _
  rw [t2]
 ·refine wi_ A (h1_ t0) (rv_ 1 (.bool false) (fun a e => execLtCf (p := k) (q := 2) rfl (e _) (by exact h1)) (rf_ [(4, .bool false)] (h1_ t0) ?_))
  rintro a A ⟨t4, -⟩ ⟨t0, -⟩
  refine wp_cond_false t4 (wp_skip ?_)
  clear t4
  refine wp_seq ?_
  refine wi_ A (h1_ t0) (rv_ 1 (.int .i64 (((k - 1).toNat : Nat) : Int)) (fun a e => execSubIg (q := 1) (z := (((k - 1).toNat : Nat) : Int)) rfl (e _) rfl (by omega) (by omega) (by omega)) (rg_ [(2, .int .i64 (((k - 1).toNat : Nat) : Int))] ?_))
  rintro a A ⟨t2, -⟩
  refine wp_ret ?_
  repeat (first | with_reducible refine ret_in ?_ | with_reducible refine ret_then ?_)
  refine bodyPost_ret (results_tmp rfl _ _ _) A.2 ⟨?_, BB⟩
  show Ending.returned (a.eval (.tmp 2)) = _
  rw [t2]
set_option maxRecDepth 100000 in
set_option maxHeartbeats 4000000 in
theorem pbounds (k : Int) (V : World) (hk : k ≤ 17592186044416) :
  Calls Try.prog 44 #[.int .i64 k] V fun e w' => ∃ r, e = .returned r ∧ w'.ownsRow V.heap.size 3 1 r (k - 1).toNat (intsL (k - 1).toNat (fun j => k - (j : Int))) ∧ Below V.heap.size V w' := by
 obtain ⟨n, hkn⟩ : ∃ n, (k - 1).toNat = n := ⟨_, rfl⟩
 have hn17 : n ≤ 17592186044416 := by omega
 rw [hkn]
 go_enter Try.func44, Try.ntmps44
 refine wp_seq ?_
 refine wo_ 21 [(0, .int .i64 k)] ?_
 rintro a A ⟨t0, -⟩
 refine wi_ A (h1_ t0) (rf_ [] (h1_ t0) ?_)
 rintro a A - ⟨t0, -⟩
 have BW : Below V.heap.size V V := Below.refl _ _
 have BB := BW
 refine wp_seq ?_
 refine wi_ A (h1_ t0) (rc_ 1 (hkn ▸ pdrawsFor k V (by omega)) (cb_ fun X1_1 bQ => ?_))
 replace BB := BB.trans (bQ.mono BB.size)
 clear bQ
 obtain ⟨g3, egg3⟩ : ∃ z_ : Nat, X1_1.heap.size = z_ := ⟨_, rfl⟩
 refine rs_ 2 (fun a e => ?_)
 refine stepV rfl rfl (execMkN rfl (e _) (e _) hn17) ⟨.slice (some ⟨g3, 0, none⟩) n n, ⟨_, rfl, by subst egg3; rfl⟩, fun X1 hX => ?_⟩
 have bQ : Below X1_1.heap.size X1_1 X1 := by subst hX egg3; exact (belNew X1_1 _)
 have FO : (X1.ownsRow V.heap.size 3 1 (.slice (some ⟨g3, 0, none⟩) n n) (n) (intsL (n) (fun j => if j < 0 then k - (j : Int) else 0))) := by subst hX egg3; exact ownD_base (own_mkZ X1_1 n _ hn17 (fun j_ _ => if_neg (Nat.not_lt_zero _))) (BB).size
 have Fg : (V.heap.size ≤ g3) := by subst hX egg3; exact (BB).size
 replace BB := BB.trans (bQ.mono BB.size)
 clear bQ hX egg3 e a
 refine rf_ [(3, .slice (some ⟨g3, 0, none⟩) n n)] (h1_ t0) ?_
 rintro a A ⟨t3, -⟩ ⟨t0, -⟩
 refine wp_seq (wp_seq ?_)
 refine wi_ A (h2_ t0 t3) (rv_ 1 (.int .i64 ((n : Nat) : Int)) (fun a e => execLenI (len := n) rfl (e _) (shpO FO)) (rf_ [(9, .int .i64 ((n : Nat) : Int)), (10, .int .i64 ((0 : Nat) : Int))] (h2_ t0 t3) ?_))
 rintro a A ⟨t9, t10, -⟩ ⟨t0, t3, -⟩
 refine wp_block ?_
 refine wp_loop (fun a W => ∃ (i : Nat), i ≤ n ∧ (a.tmps.size = 21 ∧ a.defers = []) ∧ a.eval (.tmp 0) = .int .i64 k ∧ a.eval (.tmp 3) = .slice (some ⟨g3, 0, none⟩) n n ∧ a.eval (.tmp 9) = .int .i64 ((n : Nat) : Int) ∧ a.eval (.tmp 10) = .int .i64 ((i : Nat) : Int) ∧ Below V.heap.size V W ∧ (W.ownsRow V.heap.size 3 1 (.slice (some ⟨g3, 0, none⟩) n n) (n) (intsL (n) (fun j => if j < i then k - (j : Int) else 0)))) (fun a _ => n - (intOf (a.eval (.tmp 10))).toNat) ⟨0, Nat.zero_le _, A, t0, t3, t9, t10, BB, FO⟩ ?_
 rintro a XL3 ⟨i, hi, A, t0, t3, t9, t10, BB, FO⟩
 have es := t10
 refine wp_seq ?_
 refine wi_ A (h4_ t0 t3 t9 t10) (rv_ 0 (.bool (decide (i < n))) (fun a e => execLtW (p := i) (q := n) rfl (e _) (e _)) (rf_ [(11, .bool (decide (i < n)))] (h4_ t0 t3 t9 t10) ?_))
 rintro a A ⟨t11, -⟩ ⟨t0, t3, t9, t10, -⟩
 refine wp_seq ?_
 by_cases hlt : i < n
 ·rw [decide_eq_true hlt] at t11
  refine wp_cond_true t11 (wp_skip ?_)
  clear t11
  refine wp_seq (wp_block ?_)
  refine wp_seq ?_
  refine wi_ A (h4_ t0 t3 t9 t10) (rf_ [(4, .int .i64 ((i : Nat) : Int))] (h4_ t0 t3 t9 t10) ?_)
  rintro a A ⟨t4, -⟩ ⟨t0, t3, t9, t10, -⟩
  refine wi_ A (h5_ t0 t3 t9 t10 t4) (rv_ 4 (.int .i64 (k - (i : Int))) (fun a e => execSubIg (z := k - (i : Int)) rfl (e _) (e _) rfl (by omega) (by omega)) (rv_ 5 (.pointer (some ⟨g3, 0 + i, none⟩)) (fun a e => execIdxN (k := i) rfl (e _) (e _) hlt) (rs_ 6 (fun a e => ?_))))
  obtain ⟨hc_, hf_⟩ := own_cellI FO hlt
  refine stepS rfl rfl (execStI9 rfl (e _) (e _) hc_ hf_) ⟨_, ⟨_, rfl, rfl⟩, fun X5 hX => ?_⟩
  obtain ⟨BB, FO2⟩ : Below V.heap.size V X5 ∧ (X5.ownsRow V.heap.size 3 1 (.slice (some ⟨g3, 0, none⟩) n n) (n) (intsL (n) (fun j => if j < (i + 1) then k - (j : Int) else 0))) := by subst hX; exact ⟨(BB).setCell Fg _, own_fill FO rfl⟩
  clear FO hX e a
  refine rf_ [] (h4_ t0 t3 t9 t10) ?_
  rintro a A - ⟨t0, t3, t9, t10, -⟩
  refine wi_ A (h4_ t0 t3 t9 t10) (rv_ 0 (.int .i64 ((i + 1 : Nat) : Int)) (fun a e => execAd8 (p := i) (q := 1) rfl (e _) rfl (by omega)) (rf_ [(10, .int .i64 ((i + 1 : Nat) : Int))] (h3_ t0 t3 t9) ?_))
  rintro a A ⟨t10, -⟩ ⟨t0, t3, t9, -⟩
  exact ⟨⟨i + 1, hlt, A, t0, t3, t9, t10, BB, FO2⟩, by show n - (intOf (a.eval (.tmp 10))).toNat < n - (intOf (Act.eval _ (.tmp 10))).toNat; rw [t10, es]; show n - (i + 1) < n - i; omega⟩
 ·rw [decide_eq_false hlt] at t11
  refine wp_cond_false t11 ?_
  refine wp_exit ?_
  first | with_reducible refine exit_in ?_ | with_reducible refine exit_then (exit_in ?_) | with_reducible refine exit_then (exit_then (exit_in ?_)) | refine exit_in ?_ | refine exit_then (exit_in ?_) | refine exit_then (exit_then (exit_in ?_))
  clear t11 es
  have hin : i = n := by omega
  rw [hin] at FO
  rw [intsL_congr (g := fun j => k - (j : Int)) (fun j hj => if_pos hj)] at FO
  refine wp_seq ?_
  refine wi_ A (h4_ t0 t3 t9 t10) (rg_ [(2, .slice (some ⟨g3, 0, none⟩) n n)] ?_)
  rintro a A ⟨t2, -⟩
  refine wp_ret ?_
  refine bodyPost_ret (results_tmp rfl _ _ _) A.2 ⟨_, ?_, FO, BB⟩
  show Ending.returned (a.eval (.tmp 2)) = _
  rw [t2]
set_option maxRecDepth 100000 in
set_option maxHeartbeats 4000000 in
theorem ptaken (f g : Nat → Int) (n m : Nat) (v u0 : Value) (V : World) (hv : SliceI V v n f) (hn17 : n ≤ 17592186044416) (hu : SliceI V u0 m g) (hfl : ∀ i, i < n → 0 ≤ f i ∧ f i < m) :
  Calls Try.prog 49 #[v, u0] V fun e w' => ∃ r, e = .returned r ∧ w'.ownsRow V.heap.size 3 1 r n (intsL n (fun j => g (f j).toNat)) ∧ Below V.heap.size V w' := by
 obtain ⟨ia, ic, rfl, -, -, hsh⟩ := id hv.shape
 obtain ⟨ja, jc, rfl, -, -, hsj⟩ := id hu.shape
 have FI := hv
 have FJ := hu
 go_enter Try.func49, Try.ntmps49
 refine wp_seq ?_
 refine wo_ 27 [(0, .slice ia n ic), (1, .slice ja m jc)] ?_
 rintro a A ⟨t0, t1, -⟩
 refine wi_ A (h2_ t0 t1) (rf_ [] (h2_ t0 t1) ?_)
 rintro a A - ⟨t0, t1, -⟩
 have BW : Below V.heap.size V V := Below.refl _ _
 have BB := BW
 refine wp_seq ?_
 obtain ⟨g5, egg5⟩ : ∃ z_ : Nat, V.heap.size = z_ := ⟨_, rfl⟩
 refine wi_ A (h2_ t0 t1) (rv_ 1 (.int .i64 ((n : Nat) : Int)) (fun a e => execLenI (len := n) rfl (e _) ((FI.on BB)).shp) (rs_ 2 (fun a e => ?_)))
 refine stepV rfl rfl (execMkN rfl (e _) (e _) hn17) ⟨.slice (some ⟨g5, 0, none⟩) n n, ⟨_, rfl, by subst egg5; rfl⟩, fun X1 hX => ?_⟩
 have bQ : Below V.heap.size V X1 := by subst hX egg5; exact (belNew V _)
 have FO : (X1.ownsRow V.heap.size 3 1 (.slice (some ⟨g5, 0, none⟩) n n) (n) (intsL (n) (fun j => if j < 0 then g (f j).toNat else 0))) := by subst hX egg5; exact ownD_base (own_mkZ V n _ hn17 (fun j_ _ => if_neg (Nat.not_lt_zero _))) (BB).size
 have Fg : (V.heap.size ≤ g5) := by subst hX egg5; exact (BB).size
 replace BB := BB.trans (bQ.mono BB.size)
 clear bQ hX egg5 e a
 refine rf_ [(5, .slice (some ⟨g5, 0, none⟩) n n)] (h2_ t0 t1) ?_
 rintro a A ⟨t5, -⟩ ⟨t0, t1, -⟩
 refine wp_seq (wp_seq ?_)
 refine wi_ A (h3_ t0 t1 t5) (rv_ 1 (.int .i64 ((n : Nat) : Int)) (fun a e => execLenI (len := n) rfl (e _) ((FI.on BB)).shp) (rf_ [(11, .slice ia n ic), (12, .int .i64 ((n : Nat) : Int)), (13, .int .i64 ((0 : Nat) : Int))] (h2_ t1 t5) ?_))
 rintro a A ⟨t11, t12, t13, -⟩ ⟨t1, t5, -⟩
 refine wp_block ?_
 refine wp_loop (fun a W => ∃ (i : Nat), i ≤ n ∧ (a.tmps.size = 27 ∧ a.defers = []) ∧ a.eval (.tmp 1) = .slice ja m jc ∧ a.eval (.tmp 5) = .slice (some ⟨g5, 0, none⟩) n n ∧ a.eval (.tmp 11) = .slice ia n ic ∧ a.eval (.tmp 12) = .int .i64 ((n : Nat) : Int) ∧ a.eval (.tmp 13) = .int .i64 ((i : Nat) : Int) ∧ Below V.heap.size V W ∧ (W.ownsRow V.heap.size 3 1 (.slice (some ⟨g5, 0, none⟩) n n) (n) (intsL (n) (fun j => if j < i then g (f j).toNat else 0)))) (fun a _ => n - (intOf (a.eval (.tmp 13))).toNat) ⟨0, Nat.zero_le _, A, t1, t5, t11, t12, t13, BB, FO⟩ ?_
 rintro a XL3 ⟨i, hi, A, t1, t5, t11, t12, t13, BB, FO⟩
 have es := t13
 refine wp_seq ?_
 refine wi_ A (h5_ t1 t5 t11 t12 t13) (rv_ 0 (.bool (decide (i < n))) (fun a e => execLtW (p := i) (q := n) rfl (e _) (e _)) (rf_ [(14, .bool (decide (i < n)))] (h5_ t1 t5 t11 t12 t13) ?_))
 rintro a A ⟨t14, -⟩ ⟨t1, t5, t11, t12, t13, -⟩
 refine wp_seq ?_
 by_cases hlt : i < n
 ·rw [decide_eq_true hlt] at t14
  refine wp_cond_true t14 (wp_skip ?_)
  clear t14
  refine wp_seq (wp_block ?_)
  obtain ⟨w, ew⟩ : ∃ w : Nat, f i = w := ⟨(f i).toNat, by have := hfl i hlt; omega⟩
  have hw : w < m := by have := hfl i hlt; omega
  obtain ⟨ib, io, rfl, hib, hcell⟩ := hsh (by omega)
  have cI : ∀ k, k < n → ∀ X, Below V.heap.size V X → X.cell? ⟨ib, io + k, none⟩ = some (.int .i64 (f k)) := fun k hk X hX => by rw [cell_below hX hib]; exact hcell k hk
  have cW : ∀ X, Below V.heap.size V X → X.cell? ⟨ib, io + i, none⟩ = some (.int .i64 ((w : Nat) : Int)) := fun X hX => by rw [cI i hlt X hX, ew]
  obtain ⟨jb, jo, rfl, hjb, hcelj⟩ := hsj (by omega)
  have cJ : ∀ X, Below V.heap.size V X → X.cell? ⟨jb, jo + w, none⟩ = some (.int .i64 (g (f i).toNat)) := fun X hX => by rw [cell_below hX hjb, hcelj w hw, ew]; rfl
  refine wp_seq ?_
  refine wi_ A (h5_ t1 t5 t11 t12 t13) (rv_ 1 (.pointer (some ⟨ib, io + i, none⟩)) (fun a e => execIdxN (k := i) rfl (e _) (e _) hlt) (rv_ 2 (.int .i64 ((w : Nat) : Int)) (fun a e => execLd3 rfl (e _) (cW XL3 BB)) (rf_ [(6, .int .i64 ((i : Nat) : Int)), (7, .int .i64 ((w : Nat) : Int))] (h5_ t1 t5 t11 t12 t13) ?_)))
  rintro a A ⟨t6, t7, -⟩ ⟨t1, t5, t11, t12, t13, -⟩
  refine wi_ A (h7_ t1 t5 t11 t12 t13 t6 t7) (rv_ 4 (.pointer (some ⟨jb, jo + w, none⟩)) (fun a e => execIdxN (k := w) rfl (e _) (e _) hw) (rv_ 5 (.int .i64 (g (f i).toNat)) (fun a e => execLd3 rfl (e _) (cJ XL3 BB)) (rv_ 6 (.pointer (some ⟨g5, 0 + i, none⟩)) (fun a e => execIdxN (k := i) rfl (e _) (e _) hlt) (rs_ 7 (fun a e => ?_)))))
  obtain ⟨hc_, hf_⟩ := own_cellI FO hlt
  refine stepS rfl rfl (execStI9 rfl (e _) (e _) hc_ hf_) ⟨_, ⟨_, rfl, rfl⟩, fun X5 hX => ?_⟩
  obtain ⟨BB, FO2⟩ : Below V.heap.size V X5 ∧ (X5.ownsRow V.heap.size 3 1 (.slice (some ⟨g5, 0, none⟩) n n) (n) (intsL (n) (fun j => if j < (i + 1) then g (f j).toNat else 0))) := by subst hX; exact ⟨(BB).setCell Fg _, own_fill (F := fun j => g (f j).toNat) FO rfl⟩
  clear FO hX e a
  refine rf_ [] (h5_ t1 t5 t11 t12 t13) ?_
  rintro a A - ⟨t1, t5, t11, t12, t13, -⟩
  refine wi_ A (h5_ t1 t5 t11 t12 t13) (rv_ 0 (.int .i64 ((i + 1 : Nat) : Int)) (fun a e => execAd8 (p := i) (q := 1) rfl (e _) rfl (by omega)) (rf_ [(13, .int .i64 ((i + 1 : Nat) : Int))] (h4_ t1 t5 t11 t12) ?_))
  rintro a A ⟨t13, -⟩ ⟨t1, t5, t11, t12, -⟩
  exact ⟨⟨i + 1, hlt, A, t1, t5, t11, t12, t13, BB, FO2⟩, by show n - (intOf (a.eval (.tmp 13))).toNat < n - (intOf (Act.eval _ (.tmp 13))).toNat; rw [t13, es]; show n - (i + 1) < n - i; omega⟩
 ·rw [decide_eq_false hlt] at t14
  refine wp_cond_false t14 ?_
  refine wp_exit ?_
  first | with_reducible refine exit_in ?_ | with_reducible refine exit_then (exit_in ?_) | with_reducible refine exit_then (exit_then (exit_in ?_)) | refine exit_in ?_ | refine exit_then (exit_in ?_) | refine exit_then (exit_then (exit_in ?_))
  clear t14 es
  have hin : i = n := by omega
  rw [hin] at FO
  rw [intsL_congr (g := fun j => g (f j).toNat) (fun j hj => if_pos hj)] at FO
  refine wp_seq ?_
  refine wi_ A (h5_ t1 t5 t11 t12 t13) (rg_ [(4, .slice (some ⟨g5, 0, none⟩) n n)] ?_)
  rintro a A ⟨t4, -⟩
  refine wp_ret ?_
  refine bodyPost_ret (results_tmp rfl _ _ _) A.2 ⟨_, ?_, FO, BB⟩
  show Ending.returned (a.eval (.tmp 4)) = _
  rw [t4]
set_option maxRecDepth 100000 in
set_option maxHeartbeats 4000000 in
theorem pareBelow (N : Nat) (d : Nat → Int) (m : Nat) (v : Value) (V : World) (hv : SliceI V v m d) (hm17 : m ≤ 17592186044416) (hN : N ≤ 17592186044417) (hmN : m ≤ N) :
  Calls Try.prog 76 #[v, .int .i64 ((N : Nat) : Int)] V fun e w' => e = .returned (.bool (fitQ d N m)) ∧ Below V.heap.size V w' := by
 obtain ⟨ia, ic, rfl, -, -, hsh⟩ := id hv.shape
 have FI := hv
 go_enter Try.func76, Try.ntmps76
 refine wp_seq ?_
 refine wo_ 24 [(0, .slice ia m ic), (1, .int .i64 ((N : Nat) : Int))] ?_
 rintro a A ⟨t0, t1, -⟩
 refine wi_ A (h2_ t0 t1) (rf_ [] (h2_ t0 t1) ?_)
 rintro a A - ⟨t0, t1, -⟩
 have BW : Below V.heap.size V V := Below.refl _ _
 have BB := BW
 refine wp_seq (wp_seq ?_)
 refine wi_ A (h2_ t0 t1) (rv_ 1 (.int .i64 ((m : Nat) : Int)) (fun a e => execLenI (len := m) rfl (e _) ((FI.on BB)).shp) (rf_ [(7, .slice ia m ic), (8, .int .i64 ((m : Nat) : Int)), (9, .int .i64 ((0 : Nat) : Int))] (h1_ t1) ?_))
 rintro a A ⟨t7, t8, t9, -⟩ ⟨t1, -⟩
 refine wp_block ?_
 refine wp_loop (fun a W => ∃ (i : Nat), i ≤ m ∧ (fitQ d N i = true) ∧ (a.tmps.size = 24 ∧ a.defers = []) ∧ a.eval (.tmp 1) = .int .i64 ((N : Nat) : Int) ∧ a.eval (.tmp 7) = .slice ia m ic ∧ a.eval (.tmp 8) = .int .i64 ((m : Nat) : Int) ∧ a.eval (.tmp 9) = .int .i64 ((i : Nat) : Int) ∧ Below V.heap.size V W) (fun a _ => m - (intOf (a.eval (.tmp 9))).toNat) ⟨0, Nat.zero_le _, rfl, A, t1, t7, t8, t9, BB⟩ ?_
 rintro a XL2 ⟨i, hi, hok, A, t1, t7, t8, t9, BB⟩
 have es := t9
 refine wp_seq ?_
 refine wi_ A (h4_ t1 t7 t8 t9) (rv_ 0 (.bool (decide (i < m))) (fun a e => execLtW (p := i) (q := m) rfl (e _) (e _)) (rf_ [(10, .bool (decide (i < m)))] (h4_ t1 t7 t8 t9) ?_))
 rintro a A ⟨t10, -⟩ ⟨t1, t7, t8, t9, -⟩
 refine wp_seq ?_
 by_cases hlt : i < m
 ·rw [decide_eq_true hlt] at t10
  refine wp_cond_true t10 (wp_skip ?_)
  clear t10
  refine wp_seq (wp_block ?_)
  obtain ⟨ib, io, rfl, hib, hcell⟩ := hsh (by omega)
  have cI : ∀ k, k < m → ∀ X, Below V.heap.size V X → X.cell? ⟨ib, io + k, none⟩ = some (.int .i64 (d k)) := fun k hk X hX => by rw [cell_below hX hib]; exact hcell k hk
  by_cases h1 : d i < 0
  ·refine wp_seq ?_
   refine wi_ A (h4_ t1 t7 t8 t9) (rv_ 1 (.pointer (some ⟨ib, io + i, none⟩)) (fun a e => execIdxN (k := i) rfl (e _) (e _) hlt) (rv_ 2 (.int .i64 (d i)) (fun a e => execLd3 rfl (e _) (cI i hlt XL2 BB)) (rf_ [(5, .int .i64 ((i : Nat) : Int)), (6, .int .i64 (d i))] (h4_ t1 t7 t8 t9) ?_)))
   rintro a A ⟨t5, t6, -⟩ ⟨t1, t7, t8, t9, -⟩
   refine wp_seq ?_
   refine wi_ A (h6_ t1 t7 t8 t9 t5 t6) (rv_ 1 (.bool true) (fun a e => execLtCt (p := (d i)) (q := 0) rfl (e _) (by exact h1)) (rf_ [(22, .bool true)] (h4_ t1 t7 t8 t9) ?_))
   rintro a A ⟨t22, -⟩ ⟨t1, t7, t8, t9, -⟩
   refine wp_cond_true t22 ?_
   refine wp_seq ?_
   refine wi_ A (h5_ t1 t7 t8 t9 t22) (rg_ [(4, .bool false)] ?_)
   rintro a A ⟨t4, -⟩
   have hy : fitQ d N m = false := fitQ_bad hlt (by omega)
   rw [hy]
   refine wp_ret ?_
   repeat (first | with_reducible refine ret_in ?_ | with_reducible refine ret_then ?_)
   refine bodyPost_ret (results_tmp rfl _ _ _) A.2 ⟨?_, BB⟩
   show Ending.returned (a.eval (.tmp 4)) = _
   rw [t4]
  ·by_cases h2 : (N : Int) - i ≤ d i
   ·obtain ⟨w, ew⟩ : ∃ w : Nat, d i = w := ⟨(d i).toNat, by omega⟩
    have cW : ∀ X, Below V.heap.size V X → X.cell? ⟨ib, io + i, none⟩ = some (.int .i64 ((w : Nat) : Int)) := fun X hX => by rw [cI i hlt X hX, ew]
    refine wp_seq ?_
    refine wi_ A (h4_ t1 t7 t8 t9) (rv_ 1 (.pointer (some ⟨ib, io + i, none⟩)) (fun a e => execIdxN (k := i) rfl (e _) (e _) hlt) (rv_ 2 (.int .i64 ((w : Nat) : Int)) (fun a e => execLd3 rfl (e _) (cW XL2 BB)) (rf_ [(5, .int .i64 ((i : Nat) : Int)), (6, .int .i64 ((w : Nat) : Int))] (h4_ t1 t7 t8 t9) ?_)))
    rintro a A ⟨t5, t6, -⟩ ⟨t1, t7, t8, t9, -⟩
    refine wp_seq ?_
    refine wi_ A (h6_ t1 t7 t8 t9 t5 t6) (rv_ 1 (.bool false) (fun a e => execDec (execLtW (p := w) (q := 0) rfl (e _) rfl) (decide_eq_false (by omega))) (rv_ 6 (.int .i64 ((N - i : Nat) : Int)) (fun a e => By8.execSubI (p := N) (q := i) rfl (e _) (e _) (by omega) (by omega)) (rv_ 7 (.bool true) (fun a e => execDec (execGe8 (p := w) (q := N - i) rfl (e _) (e _)) (decide_eq_true (by omega))) (rf_ [(22, .bool true)] (h4_ t1 t7 t8 t9) ?_))))
    rintro a A ⟨t22, -⟩ ⟨t1, t7, t8, t9, -⟩
    refine wp_cond_true t22 ?_
    refine wp_seq ?_
    refine wi_ A (h5_ t1 t7 t8 t9 t22) (rg_ [(4, .bool false)] ?_)
    rintro a A ⟨t4, -⟩
    have hy : fitQ d N m = false := fitQ_bad hlt (by omega)
    rw [hy]
    refine wp_ret ?_
    repeat (first | with_reducible refine ret_in ?_ | with_reducible refine ret_then ?_)
    refine bodyPost_ret (results_tmp rfl _ _ _) A.2 ⟨?_, BB⟩
    show Ending.returned (a.eval (.tmp 4)) = _
    rw [t4]
   ·obtain ⟨w, ew⟩ : ∃ w : Nat, d i = w := ⟨(d i).toNat, by omega⟩
    have cW : ∀ X, Below V.heap.size V X → X.cell? ⟨ib, io + i, none⟩ = some (.int .i64 ((w : Nat) : Int)) := fun X hX => by rw [cI i hlt X hX, ew]
    refine wp_seq ?_
    refine wi_ A (h4_ t1 t7 t8 t9) (rv_ 1 (.pointer (some ⟨ib, io + i, none⟩)) (fun a e => execIdxN (k := i) rfl (e _) (e _) hlt) (rv_ 2 (.int .i64 ((w : Nat) : Int)) (fun a e => execLd3 rfl (e _) (cW XL2 BB)) (rf_ [(5, .int .i64 ((i : Nat) : Int)), (6, .int .i64 ((w : Nat) : Int))] (h4_ t1 t7 t8 t9) ?_)))
    rintro a A ⟨t5, t6, -⟩ ⟨t1, t7, t8, t9, -⟩
    refine wp_seq ?_
    refine wi_ A (h6_ t1 t7 t8 t9 t5 t6) (rv_ 1 (.bool false) (fun a e => execDec (execLtW (p := w) (q := 0) rfl (e _) rfl) (decide_eq_false (by omega))) (rv_ 6 (.int .i64 ((N - i : Nat) : Int)) (fun a e => By8.execSubI (p := N) (q := i) rfl (e _) (e _) (by omega) (by omega)) (rv_ 7 (.bool false) (fun a e => execDec (execGe8 (p := w) (q := N - i) rfl (e _) (e _)) (decide_eq_false (by omega))) (rf_ [(22, .bool false)] (h4_ t1 t7 t8 t9) ?_))))
    rintro a A ⟨t22, -⟩ ⟨t1, t7, t8, t9, -⟩
    refine wp_cond_false t22 (wp_skip ?_)
    clear t22
    refine wi_ A (h4_ t1 t7 t8 t9) (rv_ 0 (.int .i64 ((i + 1 : Nat) : Int)) (fun a e => execAd8 (p := i) (q := 1) rfl (e _) rfl (by omega)) (rf_ [(9, .int .i64 ((i + 1 : Nat) : Int))] (h3_ t1 t7 t8) ?_))
    rintro a A ⟨t9, -⟩ ⟨t1, t7, t8, -⟩
    exact ⟨⟨i + 1, hlt, fitQ_succ hok (by omega), A, t1, t7, t8, t9, BB⟩, by show m - (intOf (a.eval (.tmp 9))).toNat < m - (intOf (Act.eval _ (.tmp 9))).toNat; rw [t9, es]; show m - (i + 1) < m - i; omega⟩
 ·rw [decide_eq_false hlt] at t10
  refine wp_cond_false t10 ?_
  refine wp_exit ?_
  first | with_reducible refine exit_in ?_ | with_reducible refine exit_then (exit_in ?_) | with_reducible refine exit_then (exit_then (exit_in ?_)) | refine exit_in ?_ | refine exit_then (exit_in ?_) | refine exit_then (exit_then (exit_in ?_))
  clear t10 es
  have hin : i = m := by omega
  rw [hin] at hok
  rw [hok]
  refine wp_seq ?_
  refine wi_ A (h4_ t1 t7 t8 t9) (rg_ [(4, .bool true)] ?_)
  rintro a A ⟨t4, -⟩
  refine wp_ret ?_
  repeat (first | with_reducible refine ret_in ?_ | with_reducible refine ret_then ?_)
  refine bodyPost_ret (results_tmp rfl _ _ _) A.2 ⟨?_, BB⟩
  show Ending.returned (a.eval (.tmp 4)) = _
  rw [t4]
end Go.Proofs.Ytmjpneaccjlpkaa.Prm
