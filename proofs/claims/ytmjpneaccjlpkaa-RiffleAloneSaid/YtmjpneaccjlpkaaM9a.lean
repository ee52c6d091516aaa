import Derived.Test.YtmjpneaccjlpkaaF9a
import Derived.Test.YtmjpneaccjlpkaaP9h
namespace Go.Proofs.Ytmjpneaccjlpkaa.Prm
open Go.RowKit Gf8 Aes By8 Cel Cf Tap Drw
/- Package perm as it landed: Check, Identity, drawsFor, Bounds, places, taken of ints, areBelow, countBelow. Written by tools/mkM9a.py. -/
theorem own_fill {W : World} {B n g cap i : Nat} {F : Nat → Int} {z : Int} (h : W.ownsRow B 3 1 (.slice (some ⟨g, 0, none⟩) n cap) n (intsL n (fun j => if j < i then F j else 0))) (e : z = F i) : (W.setCell ⟨g, 0 + i, none⟩ (.int .i64 z)).ownsRow B 3 1 (.slice (some ⟨g, 0, none⟩) n cap) n (intsL n (fun j => if j < (i + 1) then F j else 0)) := by
 have h2 := own_setF (k := i) z h
 rw [intsL_congr (g := fun j => if j < (i + 1) then F j else 0) (fun j _ => ?_)] at h2
 ·exact h2
 ·by_cases q : j = i
  ·subst q
   rw [if_pos rfl, if_pos (by omega), e]
  ·rw [if_neg q]
   by_cases q2 : j < i
   ·rw [if_pos q2, if_pos (by omega)]
   ·rw [if_neg q2, if_neg (by omega)]
theorem execMax0 {o : Oper} {a : Act} {w : World} {x : Operand} {k : Int} {n : Nat} (ho : o.op = .call { callee := .builtin .max, args := #[x, .const (.int .i64 0)], argTypes := #[3, 3] }) (hx : a.eval x = .int .i64 k) (hn : k.toNat = n) : (execOp a.eval o).run Try.prog w = .ok (.value (.int .i64 (n : Int))) w := by
 subst hn
 unfold execOp
 simp only [ho, resolve, invoke, builtin, List.map_toArray, List.map_cons, List.map_nil, hx]
 simp [go_sem]
 split <;> omega
set_option maxRecDepth 100000 in
set_option maxHeartbeats 4000000 in
theorem pcheck (f : Nat → Int) (n : Nat) (v : Value) (V : World) (hv : SliceI V v n f) (hn : n ≤ 17592186044416) :
  Calls Try.prog 17 #[v] V fun e w' => e = .returned (.int .i64 ((pE f n : Nat) : Int)) ∧ Below V.heap.size V w' := by
 obtain ⟨ia, ic, rfl, -, -, hsh⟩ := id hv.shape
 have FI := hv
 go_enter Try.func17, Try.ntmps17
 refine wp_seq ?_
 refine wp_region_sqK 33 [(0, 2)] (fun i_ => match i_ with | 0 => .int .i64 ((0 : Nat) : Int) | _ => undef) rfl (by kernel_rfl) (by decide) (by decide) ?_ ?_
 ·intro i_ hi_ a hf hv hn
  match i_, hi_ with
  | 0, _ => exact stepV rfl rfl (execAsgB rfl rfl) ⟨⟨_, rfl, rfl⟩, rfl⟩
  | k_ + 1, h_ => exact absurd h_ (by simp)
 intro a h1 h2 h3 h4
 have t0 : a.eval (.tmp 0) = .slice ia n ic := (h3 0 (by decide)).trans rfl
 have A : a.tmps.size = 33 ∧ a.defers = [] := ⟨h1, h2⟩
 have BW : Below V.heap.size V V := Below.refl _ _
 clear h1 h2 h3 h4
 have BB := BW
 refine wp_seq ?_
 refine wp_se (σ := Nat) 33 [1, 2] [2] (fun k_ s X => match k_ with | 0 => Below V.heap.size V X | _ => Below V.heap.size V X ∧ (X.ownsRow V.heap.size 4 1 (.slice (some ⟨s, 0, none⟩) n n) (n) (boolsL (n) (fun j => inI f (j : Int) 0))) ∧ (V.heap.size ≤ s)) (fun s => fun i_ => match i_ with | 1 => .int .i64 ((n : Nat) : Int) | 2 => .slice (some ⟨s, 0, none⟩) n n | _ => undef) 0 A (BB) (And.intro ?_ (And.intro ?_ trivial)) ?_
 ·exact fun s a X e hS => stepV rfl rfl (execLenI (len := n) rfl ((e (.tmp 6)).trans t0) ((FI.on hS)).shp) ⟨s, ⟨_, rfl, rfl⟩, hS, ar⟩
 ·intro s a X e hS
  refine stepV rfl rfl (execMkBl rfl (e (.tmp 7)) (e (.tmp 7)) (by omega)) ⟨X.heap.size, ⟨_, rfl, rfl⟩, ⟨(hS).trans (((belNew X _)).mono (hS).size), ownD_base (own_mkBl X n _ (by omega) (fun _ _ => rfl)) (hS).size, (hS).size⟩, (And.intro (fun _ => rfl) (And.intro (fun h => absurd h (by decide)) trivial))⟩
 rintro g3 a X1 A e (hS : Below V.heap.size V X1 ∧ (X1.ownsRow V.heap.size 4 1 (.slice (some ⟨g3, 0, none⟩) n n) (n) (boolsL (n) (fun j => inI f (j : Int) 0))) ∧ (V.heap.size ≤ g3))
 obtain ⟨BB, FS, Fg⟩ := hS
 have t3 : a.eval (.tmp 3) = .slice (some ⟨g3, 0, none⟩) n n := e _
 replace t0 := kt e t0
 clear e
 refine wp_seq (wp_seq ?_)
 refine wp_se 33 [1] [] (fun _ s X => Below V.heap.size V X ∧ (X.ownsRow V.heap.size 4 1 (.slice (some ⟨g3, 0, none⟩) n n) (n) (boolsL (n) (fun j => inI f (j : Int) 0))) ∧ (V.heap.size ≤ g3)) (fun s => fun i_ => match i_ with | 1 => .int .i64 ((n : Nat) : Int) | _ => undef) () A ⟨BB, FS, Fg⟩ (And.intro ?_ trivial) ?_
 ·exact fun s a X e hS => stepV rfl rfl (execLenI (len := n) rfl ((e (.tmp 9)).trans t0) ((FI.on hS.1)).shp) ⟨s, ⟨_, rfl, rfl⟩, hS, ar⟩
 rintro _ a X2 A e (hS : Below V.heap.size V X2 ∧ (X2.ownsRow V.heap.size 4 1 (.slice (some ⟨g3, 0, none⟩) n n) (n) (boolsL (n) (fun j => inI f (j : Int) 0))) ∧ (V.heap.size ≤ g3))
 obtain ⟨BB, FS, Fg⟩ := hS
 have t9 : a.eval (.tmp 9) = .slice ia n ic := (e _).trans t0
 have t10 : a.eval (.tmp 10) = .int .i64 ((n : Nat) : Int) := e _
 have t11 : a.eval (.tmp 11) = .int .i64 ((0 : Nat) : Int) := e _
 replace t0 := kt e t0
 replace t3 := kt e t3
 clear e
 refine wp_block ?_
 refine wp_loop (fun a W => ∃ (i : Nat), i ≤ n ∧ (okQ f n i = true) ∧ (a.tmps.size = 33 ∧ a.defers = []) ∧ a.eval (.tmp 0) = .slice ia n ic ∧ a.eval (.tmp 3) = .slice (some ⟨g3, 0, none⟩) n n ∧ a.eval (.tmp 9) = .slice ia n ic ∧ a.eval (.tmp 10) = .int .i64 ((n : Nat) : Int) ∧ a.eval (.tmp 11) = .int .i64 ((i : Nat) : Int) ∧ Below V.heap.size V W ∧ (W.ownsRow V.heap.size 4 1 (.slice (some ⟨g3, 0, none⟩) n n) (n) (boolsL (n) (fun j => inI f (j : Int) i)))) (fun a _ => n - (intOf (a.eval (.tmp 11))).toNat) ⟨0, Nat.zero_le _, rfl, A, t0, t3, t9, t10, t11, BB, FS⟩ ?_
 rintro a XL3 ⟨i, hi, hok, A, t0, t3, t9, t10, t11, BB, FS⟩
 have es := t11
 refine wp_seq ?_
 refine wp_se 33 [0] [] (fun _ s X => Below V.heap.size V X ∧ (X.ownsRow V.heap.size 4 1 (.slice (some ⟨g3, 0, none⟩) n n) (n) (boolsL (n) (fun j => inI f (j : Int) i)))) (fun s => fun i_ => match i_ with | 0 => .bool (decide (i < n)) | _ => undef) () A ⟨BB, FS⟩ (And.intro ?_ trivial) ?_
 ·exact fun s a X e hS => stepV rfl rfl (execLtW (p := i) (q := n) rfl ((e (.tmp 11)).trans t11) ((e (.tmp 10)).trans t10)) ⟨s, ⟨_, rfl, rfl⟩, hS, ar⟩
 rintro _ a X3 A e (hS : Below V.heap.size V X3 ∧ (X3.ownsRow V.heap.size 4 1 (.slice (some ⟨g3, 0, none⟩) n n) (n) (boolsL (n) (fun j => inI f (j : Int) i))))
 obtain ⟨BB, FS⟩ := hS
 have t12 : a.eval (.tmp 12) = .bool (decide (i < n)) := e _
 replace t0 := kt e t0
 replace t3 := kt e t3
 replace t9 := kt e t9
 replace t10 := kt e t10
 replace t11 := kt e t11
 clear e
 refine wp_seq ?_
 by_cases hlt : i < n
 ·rw [decide_eq_true hlt] at t12
  refine wp_cond_true t12 (wp_skip ?_)
  clear t12
  refine wp_seq (wp_block ?_)
  obtain ⟨ib, io, rfl, hib, hcell⟩ := hsh (by omega)
  have cI : ∀ k, k < n → ∀ X, Below V.heap.size V X → X.cell? ⟨ib, io + k, none⟩ = some (.int .i64 (f k)) := fun k hk X hX => by rw [cell_below hX hib]; exact hcell k hk
  by_cases h1 : f i < 0
  ·refine wp_seq ?_
   refine wp_se 33 [0, 1] [] (fun _ s X => Below V.heap.size V X ∧ (X.ownsRow V.heap.size 4 1 (.slice (some ⟨g3, 0, none⟩) n n) (n) (boolsL (n) (fun j => inI f (j : Int) i)))) (fun s => fun i_ => match i_ with | 0 => .pointer (some ⟨ib, io + i, none⟩) | 1 => .int .i64 (f i) | _ => undef) () A ⟨BB, FS⟩ (And.intro ?_ (And.intro ?_ trivial)) ?_
   ·exact fun s a X e hS => stepV rfl rfl (execIdxN (k := i) rfl ((e (.tmp 9)).trans t9) ((e (.tmp 11)).trans t11) hlt) ⟨s, ⟨_, rfl, rfl⟩, hS, ar⟩
   ·exact fun s a X e hS => stepV rfl rfl (execLd3 rfl (e (.tmp 13)) (cI i hlt X hS.1)) ⟨s, ⟨_, rfl, rfl⟩, hS, ar⟩
   rintro _ a X4 A e (hS : Below V.heap.size V X4 ∧ (X4.ownsRow V.heap.size 4 1 (.slice (some ⟨g3, 0, none⟩) n n) (n) (boolsL (n) (fun j => inI f (j : Int) i))))
   obtain ⟨BB, FS⟩ := hS
   have t5 : a.eval (.tmp 5) = .int .i64 (f i) := e _
   replace t0 := kt e t0
   replace t3 := kt e t3
   replace t9 := kt e t9
   replace t10 := kt e t10
   replace t11 := kt e t11
   clear e
   refine wp_seq (wp_seq ?_)
   refine wp_se 33 [1] [] (fun _ s X => Below V.heap.size V X ∧ (X.ownsRow V.heap.size 4 1 (.slice (some ⟨g3, 0, none⟩) n n) (n) (boolsL (n) (fun j => inI f (j : Int) i)))) (fun s => fun i_ => match i_ with | 1 => .bool true | _ => undef) () A ⟨BB, FS⟩ (And.intro ?_ trivial) ?_
   ·exact fun s a X e hS => stepV rfl rfl (execLtCt (p := (f i)) (q := 0) rfl ((e (.tmp 15)).trans t5) (by exact h1)) ⟨s, ⟨_, rfl, rfl⟩, hS, ar⟩
   rintro _ a X5 A e (hS : Below V.heap.size V X5 ∧ (X5.ownsRow V.heap.size 4 1 (.slice (some ⟨g3, 0, none⟩) n n) (n) (boolsL (n) (fun j => inI f (j : Int) i))))
   obtain ⟨BB, FS⟩ := hS
   have t28 : a.eval (.tmp 28) = .bool true := e _
   replace t0 := kt e t0
   replace t3 := kt e t3
   replace t9 := kt e t9
   replace t10 := kt e t10
   replace t11 := kt e t11
   replace t5 := kt e t5
   clear e
   refine wp_cond_true t28 ?_
   refine wp_seq ?_
   refine wp_se 33 [] [] (fun _ s X => Below V.heap.size V X ∧ (X.ownsRow V.heap.size 4 1 (.slice (some ⟨g3, 0, none⟩) n n) (n) (boolsL (n) (fun j => inI f (j : Int) i)))) (fun s => fun _ => undef) () A ⟨BB, FS⟩ trivial ?_
   rintro _ a X6 A e (hS : Below V.heap.size V X6 ∧ (X6.ownsRow V.heap.size 4 1 (.slice (some ⟨g3, 0, none⟩) n n) (n) (boolsL (n) (fun j => inI f (j : Int) i))))
   obtain ⟨BB, FS⟩ := hS
   have t2 : a.eval (.tmp 2) = .int .i64 ((110 : Nat) : Int) := e _
   clear e t0 t3 t9 t10 t11 t5 t28
   have hE : pE f n = 110 := pE_bad hlt (Or.inl h1)
   rw [hE]
   refine wp_ret ?_
   repeat (first | with_reducible refine ret_in ?_ | with_reducible refine ret_then ?_)
   refine bodyPost_ret (results_tmp rfl _ _ _) A.2 ⟨?_, BB⟩
   show Ending.returned (a.eval (.tmp 2)) = _
   rw [t2]
  ·by_cases h2 : (n : Int) ≤ f i
   ·obtain ⟨w, ew⟩ : ∃ w : Nat, f i = w := ⟨(f i).toNat, by omega⟩
    have cW : ∀ X, Below V.heap.size V X → X.cell? ⟨ib, io + i, none⟩ = some (.int .i64 ((w : Nat) : Int)) := fun X hX => by rw [cI i hlt X hX, ew]
    refine wp_seq ?_
    refine wp_se 33 [0, 1] [] (fun _ s X => Below V.heap.size V X ∧ (X.ownsRow V.heap.size 4 1 (.slice (some ⟨g3, 0, none⟩) n n) (n) (boolsL (n) (fun j => inI f (j : Int) i)))) (fun s => fun i_ => match i_ with | 0 => .pointer (some ⟨ib, io + i, none⟩) | 1 => .int .i64 ((w : Nat) : Int) | _ => undef) () A ⟨BB, FS⟩ (And.intro ?_ (And.intro ?_ trivial)) ?_
    ·exact fun s a X e hS => stepV rfl rfl (execIdxN (k := i) rfl ((e (.tmp 9)).trans t9) ((e (.tmp 11)).trans t11) hlt) ⟨s, ⟨_, rfl, rfl⟩, hS, ar⟩
    ·exact fun s a X e hS => stepV rfl rfl (execLd3 rfl (e (.tmp 13)) (cW X hS.1)) ⟨s, ⟨_, rfl, rfl⟩, hS, ar⟩
    rintro _ a X4 A e (hS : Below V.heap.size V X4 ∧ (X4.ownsRow V.heap.size 4 1 (.slice (some ⟨g3, 0, none⟩) n n) (n) (boolsL (n) (fun j => inI f (j : Int) i))))
    obtain ⟨BB, FS⟩ := hS
    have t5 : a.eval (.tmp 5) = .int .i64 ((w : Nat) : Int) := e _
    replace t0 := kt e t0
    replace t3 := kt e t3
    replace t9 := kt e t9
    replace t10 := kt e t10
    replace t11 := kt e t11
    clear e
    refine wp_seq (wp_seq ?_)
    refine wp_se 33 [1, 5, 6] [] (fun _ s X => Below V.heap.size V X ∧ (X.ownsRow V.heap.size 4 1 (.slice (some ⟨g3, 0, none⟩) n n) (n) (boolsL (n) (fun j => inI f (j : Int) i)))) (fun s => fun i_ => match i_ with | 1 => .bool false | 5 => .int .i64 ((n : Nat) : Int) | 6 => .bool true | _ => undef) () A ⟨BB, FS⟩ (And.intro ?_ (And.intro ?_ (And.intro ?_ trivial))) ?_
    ·exact fun s a X e hS => stepV rfl rfl (execDec (execLtW (p := w) (q := 0) rfl ((e (.tmp 15)).trans t5) rfl) (decide_eq_false (by omega))) ⟨s, ⟨_, rfl, rfl⟩, hS, ar⟩
    ·exact fun s a X e hS => stepV rfl (wy rfl rfl rfl (e (.tmp 17))) (execLenI (len := n) rfl ((e (.tmp 19)).trans t0) ((FI.on hS.1)).shp) ⟨s, ⟨_, rfl, rfl⟩, hS, ar⟩
    ·exact fun s a X e hS => stepV rfl (wy rfl rfl rfl (e (.tmp 17))) (execDec (execGe8 (p := w) (q := n) rfl ((e (.tmp 18)).trans t5) (e (.tmp 20))) (decide_eq_true (by omega))) ⟨s, ⟨_, rfl, rfl⟩, hS, ar⟩
    rintro _ a X5 A e (hS : Below V.heap.size V X5 ∧ (X5.ownsRow V.heap.size 4 1 (.slice (some ⟨g3, 0, none⟩) n n) (n) (boolsL (n) (fun j => inI f (j : Int) i))))
    obtain ⟨BB, FS⟩ := hS
    have t28 : a.eval (.tmp 28) = .bool true := e _
    replace t0 := kt e t0
    replace t3 := kt e t3
    replace t9 := kt e t9
    replace t10 := kt e t10
    replace t11 := kt e t11
    replace t5 := kt e t5
    clear e
    refine wp_cond_true t28 ?_
    refine wp_seq ?_
    refine wp_se 33 [] [] (fun _ s X => Below V.heap.size V X ∧ (X.ownsRow V.heap.size 4 1 (.slice (some ⟨g3, 0, none⟩) n n) (n) (boolsL (n) (fun j => inI f (j : Int) i)))) (fun s => fun _ => undef) () A ⟨BB, FS⟩ trivial ?_
    rintro _ a X6 A e (hS : Below V.heap.size V X6 ∧ (X6.ownsRow V.heap.size 4 1 (.slice (some ⟨g3, 0, none⟩) n n) (n) (boolsL (n) (fun j => inI f (j : Int) i))))
    obtain ⟨BB, FS⟩ := hS
    have t2 : a.eval (.tmp 2) = .int .i64 ((110 : Nat) : Int) := e _
    clear e t0 t3 t9 t10 t11 t5 t28
    have hE : pE f n = 110 := pE_bad hlt (Or.inr (Or.inl (by omega)))
    rw [hE]
    refine wp_ret ?_
    repeat (first | with_reducible refine ret_in ?_ | with_reducible refine ret_then ?_)
    refine bodyPost_ret (results_tmp rfl _ _ _) A.2 ⟨?_, BB⟩
    show Ending.returned (a.eval (.tmp 2)) = _
    rw [t2]
   ·by_cases h3 : inI f (f i) i = true
    ·obtain ⟨w, ew⟩ : ∃ w : Nat, f i = w := ⟨(f i).toNat, by omega⟩
     have cW : ∀ X, Below V.heap.size V X → X.cell? ⟨ib, io + i, none⟩ = some (.int .i64 ((w : Nat) : Int)) := fun X hX => by rw [cI i hlt X hX, ew]
     have hw : w < n := by omega
     have hsn : inI f (w : Int) i = true := by rw [← ew]; exact h3
     refine wp_seq ?_
     refine wp_se 33 [0, 1] [] (fun _ s X => Below V.heap.size V X ∧ (X.ownsRow V.heap.size 4 1 (.slice (some ⟨g3, 0, none⟩) n n) (n) (boolsL (n) (fun j => inI f (j : Int) i)))) (fun s => fun i_ => match i_ with | 0 => .pointer (some ⟨ib, io + i, none⟩) | 1 => .int .i64 ((w : Nat) : Int) | _ => undef) () A ⟨BB, FS⟩ (And.intro ?_ (And.intro ?_ trivial)) ?_
     ·exact fun s a X e hS => stepV rfl rfl (execIdxN (k := i) rfl ((e (.tmp 9)).trans t9) ((e (.tmp 11)).trans t11) hlt) ⟨s, ⟨_, rfl, rfl⟩, hS, ar⟩
     ·exact fun s a X e hS => stepV rfl rfl (execLd3 rfl (e (.tmp 13)) (cW X hS.1)) ⟨s, ⟨_, rfl, rfl⟩, hS, ar⟩
     rintro _ a X4 A e (hS : Below V.heap.size V X4 ∧ (X4.ownsRow V.heap.size 4 1 (.slice (some ⟨g3, 0, none⟩) n n) (n) (boolsL (n) (fun j => inI f (j : Int) i))))
     obtain ⟨BB, FS⟩ := hS
     have t5 : a.eval (.tmp 5) = .int .i64 ((w : Nat) : Int) := e _
     replace t0 := kt e t0
     replace t3 := kt e t3
     replace t9 := kt e t9
     replace t10 := kt e t10
     replace t11 := kt e t11
     clear e
     refine wp_seq (wp_seq ?_)
     refine wp_se 33 [1, 5, 6, 11, 12] [] (fun _ s X => Below V.heap.size V X ∧ (X.ownsRow V.heap.size 4 1 (.slice (some ⟨g3, 0, none⟩) n n) (n) (boolsL (n) (fun j => inI f (j : Int) i)))) (fun s => fun i_ => match i_ with | 1 => .bool false | 5 => .int .i64 ((n : Nat) : Int) | 6 => .bool false | 11 => .pointer (some ⟨g3, 0 + w, none⟩) | 12 => .bool true | _ => undef) () A ⟨BB, FS⟩ (And.intro ?_ (And.intro ?_ (And.intro ?_ (And.intro ?_ (And.intro ?_ trivial))))) ?_
     ·exact fun s a X e hS => stepV rfl rfl (execDec (execLtW (p := w) (q := 0) rfl ((e (.tmp 15)).trans t5) rfl) (decide_eq_false (by omega))) ⟨s, ⟨_, rfl, rfl⟩, hS, ar⟩
     ·exact fun s a X e hS => stepV rfl (wy rfl rfl rfl (e (.tmp 17))) (execLenI (len := n) rfl ((e (.tmp 19)).trans t0) ((FI.on hS.1)).shp) ⟨s, ⟨_, rfl, rfl⟩, hS, ar⟩
     ·exact fun s a X e hS => stepV rfl (wy rfl rfl rfl (e (.tmp 17))) (execDec (execGe8 (p := w) (q := n) rfl ((e (.tmp 18)).trans t5) (e (.tmp 20))) (decide_eq_false (by omega))) ⟨s, ⟨_, rfl, rfl⟩, hS, ar⟩
     ·exact fun s a X e hS => stepV rfl (wy rfl rfl rfl (e (.tmp 23))) (execIdxBl (k := w) rfl ((e (.tmp 24)).trans t3) ((e (.tmp 25)).trans t5) hw) ⟨s, ⟨_, rfl, rfl⟩, hS, ar⟩
     ·exact fun s a X e hS => stepV rfl (wy rfl rfl rfl (e (.tmp 23))) (execLdBl rfl (e (.tmp 26)) (by rw [(own_cellBl hS.2 hw).1, hsn])) ⟨s, ⟨_, rfl, rfl⟩, hS, ar⟩
     rintro _ a X5 A e (hS : Below V.heap.size V X5 ∧ (X5.ownsRow V.heap.size 4 1 (.slice (some ⟨g3, 0, none⟩) n n) (n) (boolsL (n) (fun j => inI f (j : Int) i))))
     obtain ⟨BB, FS⟩ := hS
     have t28 : a.eval (.tmp 28) = .bool true := e _
     replace t0 := kt e t0
     replace t3 := kt e t3
     replace t9 := kt e t9
     replace t10 := kt e t10
     replace t11 := kt e t11
     replace t5 := kt e t5
     clear e
     refine wp_cond_true t28 ?_
     refine wp_seq ?_
     refine wp_se 33 [] [] (fun _ s X => Below V.heap.size V X ∧ (X.ownsRow V.heap.size 4 1 (.slice (some ⟨g3, 0, none⟩) n n) (n) (boolsL (n) (fun j => inI f (j : Int) i)))) (fun s => fun _ => undef) () A ⟨BB, FS⟩ trivial ?_
     rintro _ a X6 A e (hS : Below V.heap.size V X6 ∧ (X6.ownsRow V.heap.size 4 1 (.slice (some ⟨g3, 0, none⟩) n n) (n) (boolsL (n) (fun j => inI f (j : Int) i))))
     obtain ⟨BB, FS⟩ := hS
     have t2 : a.eval (.tmp 2) = .int .i64 ((110 : Nat) : Int) := e _
     clear e t0 t3 t9 t10 t11 t5 t28
     have hE : pE f n = 110 := pE_bad hlt (Or.inr (Or.inr h3))
     rw [hE]
     refine wp_ret ?_
     repeat (first | with_reducible refine ret_in ?_ | with_reducible refine ret_then ?_)
     refine bodyPost_ret (results_tmp rfl _ _ _) A.2 ⟨?_, BB⟩
     show Ending.returned (a.eval (.tmp 2)) = _
     rw [t2]
    ·obtain ⟨w, ew⟩ : ∃ w : Nat, f i = w := ⟨(f i).toNat, by omega⟩
     have cW : ∀ X, Below V.heap.size V X → X.cell? ⟨ib, io + i, none⟩ = some (.int .i64 ((w : Nat) : Int)) := fun X hX => by rw [cI i hlt X hX, ew]
     have hw : w < n := by omega
     have hsn : inI f (w : Int) i = false := by rw [← ew]; exact Bool.eq_false_iff.2 h3
     refine wp_seq ?_
     refine wp_se 33 [0, 1] [] (fun _ s X => Below V.heap.size V X ∧ (X.ownsRow V.heap.size 4 1 (.slice (some ⟨g3, 0, none⟩) n n) (n) (boolsL (n) (fun j => inI f (j : Int) i)))) (fun s => fun i_ => match i_ with | 0 => .pointer (some ⟨ib, io + i, none⟩) | 1 => .int .i64 ((w : Nat) : Int) | _ => undef) () A ⟨BB, FS⟩ (And.intro ?_ (And.intro ?_ trivial)) ?_
     ·exact fun s a X e hS => stepV rfl rfl (execIdxN (k := i) rfl ((e (.tmp 9)).trans t9) ((e (.tmp 11)).trans t11) hlt) ⟨s, ⟨_, rfl, rfl⟩, hS, ar⟩
     ·exact fun s a X e hS => stepV rfl rfl (execLd3 rfl (e (.tmp 13)) (cW X hS.1)) ⟨s, ⟨_, rfl, rfl⟩, hS, ar⟩
     rintro _ a X4 A e (hS : Below V.heap.size V X4 ∧ (X4.ownsRow V.heap.size 4 1 (.slice (some ⟨g3, 0, none⟩) n n) (n) (boolsL (n) (fun j => inI f (j : Int) i))))
     obtain ⟨BB, FS⟩ := hS
     have t5 : a.eval (.tmp 5) = .int .i64 ((w : Nat) : Int) := e _
     replace t0 := kt e t0
     replace t3 := kt e t3
     replace t9 := kt e t9
     replace t10 := kt e t10
     replace t11 := kt e t11
     clear e
     refine wp_seq (wp_seq ?_)
     refine wp_se 33 [1, 5, 6, 11, 12] [] (fun _ s X => Below V.heap.size V X ∧ (X.ownsRow V.heap.size 4 1 (.slice (some ⟨g3, 0, none⟩) n n) (n) (boolsL (n) (fun j => inI f (j : Int) i)))) (fun s => fun i_ => match i_ with | 1 => .bool false | 5 => .int .i64 ((n : Nat) : Int) | 6 => .bool false | 11 => .pointer (some ⟨g3, 0 + w, none⟩) | 12 => .bool false | _ => undef) () A ⟨BB, FS⟩ (And.intro ?_ (And.intro ?_ (And.intro ?_ (And.intro ?_ (And.intro ?_ trivial))))) ?_
     ·exact fun s a X e hS => stepV rfl rfl (execDec (execLtW (p := w) (q := 0) rfl ((e (.tmp 15)).trans t5) rfl) (decide_eq_false (by omega))) ⟨s, ⟨_, rfl, rfl⟩, hS, ar⟩
     ·exact fun s a X e hS => stepV rfl (wy rfl rfl rfl (e (.tmp 17))) (execLenI (len := n) rfl ((e (.tmp 19)).trans t0) ((FI.on hS.1)).shp) ⟨s, ⟨_, rfl, rfl⟩, hS, ar⟩
     ·exact fun s a X e hS => stepV rfl (wy rfl rfl rfl (e (.tmp 17))) (execDec (execGe8 (p := w) (q := n) rfl ((e (.tmp 18)).trans t5) (e (.tmp 20))) (decide_eq_false (by omega))) ⟨s, ⟨_, rfl, rfl⟩, hS, ar⟩
     ·exact fun s a X e hS => stepV rfl (wy rfl rfl rfl (e (.tmp 23))) (execIdxBl (k := w) rfl ((e (.tmp 24)).trans t3) ((e (.tmp 25)).trans t5) hw) ⟨s, ⟨_, rfl, rfl⟩, hS, ar⟩
     ·exact fun s a X e hS => stepV rfl (wy rfl rfl rfl (e (.tmp 23))) (execLdBl rfl (e (.tmp 26)) (by rw [(own_cellBl hS.2 hw).1, hsn])) ⟨s, ⟨_, rfl, rfl⟩, hS, ar⟩
     rintro _ a X5 A e (hS : Below V.heap.size V X5 ∧ (X5.ownsRow V.heap.size 4 1 (.slice (some ⟨g3, 0, none⟩) n n) (n) (boolsL (n) (fun j => inI f (j : Int) i))))
     obtain ⟨BB, FS⟩ := hS
     have t28 : a.eval (.tmp 28) = .bool false := e _
     replace t0 := kt e t0
     replace t3 := kt e t3
     replace t9 := kt e t9
     replace t10 := kt e t10
     replace t11 := kt e t11
     replace t5 := kt e t5
     clear e
     refine wp_cond_false t28 (wp_skip ?_)
     clear t28
     refine wp_se 33 [2, 3] [3] (fun k_ s X => match k_ with | 0 => Below V.heap.size V X ∧ (X.ownsRow V.heap.size 4 1 (.slice (some ⟨g3, 0, none⟩) n n) (n) (boolsL (n) (fun j => inI f (j : Int) i))) | _ => Below V.heap.size V X ∧ (X.ownsRow V.heap.size 4 1 (.slice (some ⟨g3, 0, none⟩) n n) (n) (boolsL (n) (fun j => inI f (j : Int) (i + 1))))) (fun s => fun i_ => match i_ with | 2 => .pointer (some ⟨g3, 0 + w, none⟩) | _ => undef) () A ⟨BB, FS⟩ (And.intro ?_ (And.intro ?_ trivial)) ?_
     ·exact fun s a X e hS => stepV rfl rfl (execIdxBl (k := w) rfl ((e (.tmp 29)).trans t3) ((e (.tmp 30)).trans t5) hw) ⟨s, ⟨_, rfl, rfl⟩, hS, ar⟩
     ·intro s a X e hS
      obtain ⟨hc_, hf_⟩ := own_cellBl hS.2 hw
      refine stepS rfl rfl (execStBl rfl (e (.tmp 31)) rfl hc_ hf_) ⟨s, ⟨_, rfl, rfl⟩, ⟨(hS.1).setCell Fg _, seen_set hS.2 ew⟩, ar⟩
     rintro _ a X7 A e (hS : Below V.heap.size V X7 ∧ (X7.ownsRow V.heap.size 4 1 (.slice (some ⟨g3, 0, none⟩) n n) (n) (boolsL (n) (fun j => inI f (j : Int) (i + 1)))))
     obtain ⟨BB, FS2⟩ := hS
     replace t0 := kt e t0
     replace t3 := kt e t3
     replace t9 := kt e t9
     replace t10 := kt e t10
     replace t11 := kt e t11
     clear e t5
     refine wp_se 33 [0] [] (fun _ s X => Below V.heap.size V X ∧ (X.ownsRow V.heap.size 4 1 (.slice (some ⟨g3, 0, none⟩) n n) (n) (boolsL (n) (fun j => inI f (j : Int) (i + 1))))) (fun s => fun i_ => match i_ with | 0 => .int .i64 ((i + 1 : Nat) : Int) | _ => undef) () A ⟨BB, FS2⟩ (And.intro ?_ trivial) ?_
     ·exact fun s a X e hS => stepV rfl rfl (execAd8 (p := i) (q := 1) rfl ((e (.tmp 11)).trans t11) rfl (by omega)) ⟨s, ⟨_, rfl, rfl⟩, hS, ar⟩
     rintro _ a X8 A e (hS : Below V.heap.size V X8 ∧ (X8.ownsRow V.heap.size 4 1 (.slice (some ⟨g3, 0, none⟩) n n) (n) (boolsL (n) (fun j => inI f (j : Int) (i + 1)))))
     obtain ⟨BB, FS2⟩ := hS
     replace t11 : a.eval (.tmp 11) = .int .i64 ((i + 1 : Nat) : Int) := e _
     replace t0 := kt e t0
     replace t3 := kt e t3
     replace t9 := kt e t9
     replace t10 := kt e t10
     clear e
     exact ⟨⟨i + 1, hlt, okQ_succ hok h1 h2 h3, A, t0, t3, t9, t10, t11, BB, FS2⟩, by show n - (intOf (a.eval (.tmp 11))).toNat < n - (intOf (Act.eval _ (.tmp 11))).toNat; rw [t11, es]; show n - (i + 1) < n - i; omega⟩
 ·rw [decide_eq_false hlt] at t12
  refine wp_cond_false t12 ?_
  refine wp_exit ?_
  first | with_reducible refine exit_in ?_ | with_reducible refine exit_then (exit_in ?_) | with_reducible refine exit_then (exit_then (exit_in ?_)) | refine exit_in ?_ | refine exit_then (exit_in ?_) | refine exit_then (exit_then (exit_in ?_))
  clear t12 es
  have hin : i = n := by omega
  rw [hin] at hok
  have hE : pE f n = 0 := if_pos hok
  rw [hE]
  clear FS
  refine wp_seq ?_
  refine wp_se 33 [] [] (fun _ s X => Below V.heap.size V X) (fun s => fun _ => undef) () A (BB) trivial ?_
  rintro _ a X9 A e (BB : Below V.heap.size V X9)
  have t2 : a.eval (.tmp 2) = .int .i64 ((0 : Nat) : Int) := e _
  clear e t0 t3 t9 t10 t11
  refine wp_ret ?_
  repeat (first | with_reducible refine ret_in ?_ | with_reducible refine ret_then ?_)
  refine bodyPost_ret (results_tmp rfl _ _ _) A.2 ⟨?_, BB⟩
  show Ending.returned (a.eval (.tmp 2)) = _
  rw [t2]
set_option maxRecDepth 100000 in
set_option maxHeartbeats 4000000 in
theorem pident (k : Int) (V : World) (hk : k ≤ 17592186044416) :
  Calls Try.prog 77 #[.int .i64 k] V fun e w' => ∃ r, e = .returned r ∧ w'.ownsRow V.heap.size 3 1 r k.toNat (intsL k.toNat (fun j => (j : Int))) ∧ Below V.heap.size V w' := by
 obtain ⟨n, hkn⟩ : ∃ n, k.toNat = n := ⟨_, rfl⟩
 have hn17 : n ≤ 17592186044416 := by omega
 rw [hkn]
 go_enter Try.func77, Try.ntmps77
 refine wp_seq ?_
 refine wp_region_sqK 19 [(0, 2)] (fun i_ => match i_ with | 0 => .slice none 0 0 | _ => undef) rfl (by kernel_rfl) (by decide) (by decide) ?_ ?_
 ·intro i_ hi_ a hf hv hn
  match i_, hi_ with
  | 0, _ => exact stepV rfl rfl (execAsgB rfl rfl) ⟨⟨_, rfl, rfl⟩, rfl⟩
  | k_ + 1, h_ => exact absurd h_ (by simp)
 intro a h1 h2 h3 h4
 have t0 : a.eval (.tmp 0) = .int .i64 k := (h3 0 (by decide)).trans rfl
 have A : a.tmps.size = 19 ∧ a.defers = [] := ⟨h1, h2⟩
 have BW : Below V.heap.size V V := Below.refl _ _
 clear h1 h2 h3 h4
 have BB := BW
 refine wp_seq ?_
 refine wp_se (σ := Nat) 19 [1, 2] [2] (fun k_ s X => match k_ with | 0 => Below V.heap.size V X | _ => Below V.heap.size V X ∧ (X.ownsRow V.heap.size 3 1 (.slice (some ⟨s, 0, none⟩) n n) (n) (intsL (n) (fun j => if j < 0 then (j : Int) else 0))) ∧ (V.heap.size ≤ s)) (fun s => fun i_ => match i_ with | 1 => .int .i64 ((n : Nat) : Int) | 2 => .slice (some ⟨s, 0, none⟩) n n | _ => undef) 0 A (BB) (And.intro ?_ (And.intro ?_ trivial)) ?_
 ·exact fun s a X e hS => stepV rfl rfl (execMax0 rfl ((e (.tmp 5)).trans t0) hkn) ⟨s, ⟨_, rfl, rfl⟩, hS, ar⟩
 ·intro s a X e hS
  refine stepV rfl rfl (execMkN rfl (e (.tmp 6)) (e (.tmp 6)) hn17) ⟨X.heap.size, ⟨_, rfl, rfl⟩, ⟨(hS).trans (((belNew X _)).mono (hS).size), ownD_base (own_mkZ X n _ hn17 (fun j_ _ => if_neg (Nat.not_lt_zero _))) (hS).size, (hS).size⟩, (And.intro (fun _ => rfl) (And.intro (fun h => absurd h (by decide)) trivial))⟩
 rintro g3 a X1 A e (hS : Below V.heap.size V X1 ∧ (X1.ownsRow V.heap.size 3 1 (.slice (some ⟨g3, 0, none⟩) n n) (n) (intsL (n) (fun j => if j < 0 then (j : Int) else 0))) ∧ (V.heap.size ≤ g3))
 obtain ⟨BB, FO, Fg⟩ := hS
 have t3 : a.eval (.tmp 3) = .slice (some ⟨g3, 0, none⟩) n n := e _
 clear e t0
 refine wp_seq (wp_seq ?_)
 refine wp_se 19 [1] [] (fun _ s X => Below V.heap.size V X ∧ (X.ownsRow V.heap.size 3 1 (.slice (some ⟨g3, 0, none⟩) n n) (n) (intsL (n) (fun j => if j < 0 then (j : Int) else 0))) ∧ (V.heap.size ≤ g3)) (fun s => fun i_ => match i_ with | 1 => .int .i64 ((n : Nat) : Int) | _ => undef) () A ⟨BB, FO, Fg⟩ (And.intro ?_ trivial) ?_
 ·exact fun s a X e hS => stepV rfl rfl (execLenI (len := n) rfl ((e (.tmp 8)).trans t3) (shpO hS.2.1)) ⟨s, ⟨_, rfl, rfl⟩, hS, ar⟩
 rintro _ a X2 A e (hS : Below V.heap.size V X2 ∧ (X2.ownsRow V.heap.size 3 1 (.slice (some ⟨g3, 0, none⟩) n n) (n) (intsL (n) (fun j => if j < 0 then (j : Int) else 0))) ∧ (V.heap.size ≤ g3))
 obtain ⟨BB, FO, Fg⟩ := hS
 have t9 : a.eval (.tmp 9) = .int .i64 ((n : Nat) : Int) := e _
 have t10 : a.eval (.tmp 10) = .int .i64 ((0 : Nat) : Int) := e _
 replace t3 := kt e t3
 clear e
 refine wp_block ?_
 refine wp_loop (fun a W => ∃ (i : Nat), i ≤ n ∧ (a.tmps.size = 19 ∧ a.defers = []) ∧ a.eval (.tmp 3) = .slice (some ⟨g3, 0, none⟩) n n ∧ a.eval (.tmp 9) = .int .i64 ((n : Nat) : Int) ∧ a.eval (.tmp 10) = .int .i64 ((i : Nat) : Int) ∧ Below V.heap.size V W ∧ (W.ownsRow V.heap.size 3 1 (.slice (some ⟨g3, 0, none⟩) n n) (n) (intsL (n) (fun j => if j < i then (j : Int) else 0)))) (fun a _ => n - (intOf (a.eval (.tmp 10))).toNat) ⟨0, Nat.zero_le _, A, t3, t9, t10, BB, FO⟩ ?_
 rintro a XL3 ⟨i, hi, A, t3, t9, t10, BB, FO⟩
 have es := t10
 refine wp_seq ?_
 refine wp_se 19 [0] [] (fun _ s X => Below V.heap.size V X ∧ (X.ownsRow V.heap.size 3 1 (.slice (some ⟨g3, 0, none⟩) n n) (n) (intsL (n) (fun j => if j < i then (j : Int) else 0)))) (fun s => fun i_ => match i_ with | 0 => .bool (decide (i < n)) | _ => undef) () A ⟨BB, FO⟩ (And.intro ?_ trivial) ?_
 ·exact fun s a X e hS => stepV rfl rfl (execLtW (p := i) (q := n) rfl ((e (.tmp 10)).trans t10) ((e (.tmp 9)).trans t9)) ⟨s, ⟨_, rfl, rfl⟩, hS, ar⟩
 rintro _ a X3 A e (hS : Below V.heap.size V X3 ∧ (X3.ownsRow V.heap.size 3 1 (.slice (some ⟨g3, 0, none⟩) n n) (n) (intsL (n) (fun j => if j < i then (j : Int) else 0))))
 obtain ⟨BB, FO⟩ := hS
 have t11 : a.eval (.tmp 11) = .bool (decide (i < n)) := e _
 replace t3 := kt e t3
 replace t9 := kt e t9
 replace t10 := kt e t10
 clear e
 refine wp_seq ?_
 by_cases hlt : i < n
 ·rw [decide_eq_true hlt] at t11
  refine wp_cond_true t11 (wp_skip ?_)
  clear t11
  refine wp_seq (wp_block ?_)
  refine wp_seq ?_
  refine wp_se 19 [] [] (fun _ s X => Below V.heap.size V X ∧ (X.ownsRow V.heap.size 3 1 (.slice (some ⟨g3, 0, none⟩) n n) (n) (intsL (n) (fun j => if j < i then (j : Int) else 0)))) (fun s => fun _ => undef) () A ⟨BB, FO⟩ trivial ?_
  rintro _ a X4 A e (hS : Below V.heap.size V X4 ∧ (X4.ownsRow V.heap.size 3 1 (.slice (some ⟨g3, 0, none⟩) n n) (n) (intsL (n) (fun j => if j < i then (j : Int) else 0))))
  obtain ⟨BB, FO⟩ := hS
  have t4 : a.eval (.tmp 4) = .int .i64 ((i : Nat) : Int) := (e _).trans t10
  replace t3 := kt e t3
  replace t9 := kt e t9
  replace t10 := kt e t10
  clear e
  refine wp_se 19 [3, 4] [4] (fun k_ s X => match k_ with | 0 => Below V.heap.size V X ∧ (X.ownsRow V.heap.size 3 1 (.slice (some ⟨g3, 0, none⟩) n n) (n) (intsL (n) (fun j => if j < i then (j : Int) else 0))) | _ => Below V.heap.size V X ∧ (X.ownsRow V.heap.size 3 1 (.slice (some ⟨g3, 0, none⟩) n n) (n) (intsL (n) (fun j => if j < (i + 1) then (j : Int) else 0)))) (fun s => fun i_ => match i_ with | 3 => .pointer (some ⟨g3, 0 + i, none⟩) | _ => undef) () A ⟨BB, FO⟩ (And.intro ?_ (And.intro ?_ trivial)) ?_
  ·exact fun s a X e hS => stepV rfl rfl (execIdxN (k := i) rfl ((e (.tmp 13)).trans t3) ((e (.tmp 14)).trans t4) hlt) ⟨s, ⟨_, rfl, rfl⟩, hS, ar⟩
  ·intro s a X e hS
   obtain ⟨hc_, hf_⟩ := own_cellI hS.2 hlt
   refine stepS rfl rfl (execStI9 rfl (e (.tmp 16)) ((e (.tmp 15)).trans t4) hc_ hf_) ⟨s, ⟨_, rfl, rfl⟩, ⟨(hS.1).setCell Fg _, own_fill hS.2 rfl⟩, ar⟩
  rintro _ a X5 A e (hS : Below V.heap.size V X5 ∧ (X5.ownsRow V.heap.size 3 1 (.slice (some ⟨g3, 0, none⟩) n n) (n) (intsL (n) (fun j => if j < (i + 1) then (j : Int) else 0))))
  obtain ⟨BB, FO2⟩ := hS
  replace t3 := kt e t3
  replace t9 := kt e t9
  replace t10 := kt e t10
  clear e t4
  refine wp_se 19 [0] [] (fun _ s X => Below V.heap.size V X ∧ (X.ownsRow V.heap.size 3 1 (.slice (some ⟨g3, 0, none⟩) n n) (n) (intsL (n) (fun j => if j < (i + 1) then (j : Int) else 0)))) (fun s => fun i_ => match i_ with | 0 => .int .i64 ((i + 1 : Nat) : Int) | _ => undef) () A ⟨BB, FO2⟩ (And.intro ?_ trivial) ?_
  ·exact fun s a X e hS => stepV rfl rfl (execAd8 (p := i) (q := 1) rfl ((e (.tmp 10)).trans t10) rfl (by omega)) ⟨s, ⟨_, rfl, rfl⟩, hS, ar⟩
  rintro _ a X6 A e (hS : Below V.heap.size V X6 ∧ (X6.ownsRow V.heap.size 3 1 (.slice (some ⟨g3, 0, none⟩) n n) (n) (intsL (n) (fun j => if j < (i + 1) then (j : Int) else 0))))
  obtain ⟨BB, FO2⟩ := hS
  replace t10 : a.eval (.tmp 10) = .int .i64 ((i + 1 : Nat) : Int) := e _
  replace t3 := kt e t3
  replace t9 := kt e t9
  clear e
  exact ⟨⟨i + 1, hlt, A, t3, t9, t10, BB, FO2⟩, by show n - (intOf (a.eval (.tmp 10))).toNat < n - (intOf (Act.eval _ (.tmp 10))).toNat; rw [t10, es]; show n - (i + 1) < n - i; omega⟩
 ·rw [decide_eq_false hlt] at t11
  refine wp_cond_false t11 ?_
  refine wp_exit ?_
  first | with_reducible refine exit_in ?_ | with_reducible refine exit_then (exit_in ?_) | with_reducible refine exit_then (exit_then (exit_in ?_)) | refine exit_in ?_ | refine exit_then (exit_in ?_) | refine exit_then (exit_then (exit_in ?_))
  clear t11 es
  have hin : i = n := by omega
  rw [hin] at FO
  rw [intsL_congr (g := fun j => (j : Int)) (fun j hj => if_pos hj)] at FO
  refine wp_seq ?_
  refine wp_se 19 [] [] (fun _ s X => Below V.heap.size V X ∧ (X.ownsRow V.heap.size 3 1 (.slice (some ⟨g3, 0, none⟩) n n) (n) (intsL (n) (fun j => (j : Int))))) (fun s => fun _ => undef) () A ⟨BB, FO⟩ trivial ?_
  rintro _ a X7 A e (hS : Below V.heap.size V X7 ∧ (X7.ownsRow V.heap.size 3 1 (.slice (some ⟨g3, 0, none⟩) n n) (n) (intsL (n) (fun j => (j : Int)))))
  obtain ⟨BB, FO⟩ := hS
  have t2 : a.eval (.tmp 2) = .slice (some ⟨g3, 0, none⟩) n n := (e _).trans t3
  clear e t3 t9 t10
  refine wp_ret ?_
  refine bodyPost_ret (results_tmp rfl _ _ _) A.2 ⟨_, ?_, FO, BB⟩
  show Ending.returned (a.eval (.tmp 2)) = _
  rw [t2]
set_option maxRecDepth 100000 in
set_option maxHeartbeats 4000000 in
theorem pdrawsFor (k : Int) (V : World) (hk : k < 9223372036854775808) :
  Calls Try.prog 75 #[.int .i64 k] V fun e w' => e = .returned (.int .i64 (((k - 1).toNat : Nat) : Int)) ∧ Below V.heap.size V w' := by
 go_enter Try.func75, Try.ntmps75
 refine wp_seq ?_
 refine wp_region_sqK 7 [(0, 2)] (fun i_ => match i_ with | 0 => .int .i64 ((0 : Nat) : Int) | _ => undef) rfl (by kernel_rfl) (by decide) (by decide) ?_ ?_
 ·intro i_ hi_ a hf hv hn
  match i_, hi_ with
  | 0, _ => exact stepV rfl rfl (execAsgB rfl rfl) ⟨⟨_, rfl, rfl⟩, rfl⟩
  | k_ + 1, h_ => exact absurd h_ (by simp)
 intro a h1 h2 h3 h4
 have t0 : a.eval (.tmp 0) = .int .i64 k := (h3 0 (by decide)).trans rfl
 have A : a.tmps.size = 7 ∧ a.defers = [] := ⟨h1, h2⟩
 have BW : Below V.heap.size V V := Below.refl _ _
 clear h1 h2 h3 h4
 have BB := BW
 refine wp_seq (wp_seq ?_)
 by_cases h1 : k < 2
 ·refine wp_se 7 [1] [] (fun _ s X => Below V.heap.size V X) (fun s => fun i_ => match i_ with | 1 => .bool true | _ => undef) () A (BB) (And.intro ?_ trivial) ?_
  ·exact fun s a X e hS => stepV rfl rfl (execLtCt (p := k) (q := 2) rfl ((e (.tmp 3)).trans t0) (by exact h1)) ⟨s, ⟨_, rfl, rfl⟩, hS, ar⟩
  rintro _ a X1 A e (BB : Below V.heap.size V X1)
  have t4 : a.eval (.tmp 4) = .bool true := e _
  replace t0 := kt e t0
  clear e
  refine wp_cond_true t4 ?_
  refine wp_seq ?_
  refine wp_se 7 [] [] (fun _ s X => Below V.heap.size V X) (fun s => fun _ => undef) () A (BB) trivial ?_
  rintro _ a X2 A e (BB : Below V.heap.size V X2)
  have t2 : a.eval (.tmp 2) = .int .i64 ((0 : Nat) : Int) := e _
  clear e t0
  have hE : (k - 1).toNat = 0 := by omega
  rw [hE]
  refine wp_ret ?_
  repeat (first | with_reducible refine ret_in ?_ | with_reducible refine ret_then ?_)
  refine bodyPost_ret (results_tmp rfl _ _ _) A.2 ⟨?_, BB⟩
  show Ending.returned (a.eval (.tmp 2)) = _
  rw [t2]
 ·refine wp_se 7 [1] [] (fun _ s X => Below V.heap.size V X) (fun s => fun i_ => match i_ with | 1 => .bool false | _ => undef) () A (BB) (And.intro ?_ trivial) ?_
  ·exact fun s a X e hS => stepV rfl rfl (execLtCf (p := k) (q := 2) rfl ((e (.tmp 3)).trans t0) (by exact h1)) ⟨s, ⟨_, rfl, rfl⟩, hS, ar⟩
  rintro _ a X1 A e (BB : Below V.heap.size V X1)
  have t4 : a.eval (.tmp 4) = .bool false := e _
  replace t0 := kt e t0
  clear e
  refine wp_cond_false t4 (wp_skip ?_)
  clear t4
  refine wp_seq ?_
  refine wp_se 7 [1] [] (fun _ s X => Below V.heap.size V X) (fun s => fun i_ => match i_ with | 1 => .int .i64 (((k - 1).toNat : Nat) : Int) | _ => undef) () A (BB) (And.intro ?_ trivial) ?_
  ·exact fun s a X e hS => stepV rfl rfl (execSubIg (q := 1) (z := (((k - 1).toNat : Nat) : Int)) rfl ((e (.tmp 5)).trans t0) rfl (by omega) (by omega) (by omega)) ⟨s, ⟨_, rfl, rfl⟩, hS, ar⟩
  rintro _ a X3 A e (BB : Below V.heap.size V X3)
  have t2 : a.eval (.tmp 2) = .int .i64 (((k - 1).toNat : Nat) : Int) := e _
  clear e t0
  refine wp_ret ?_
  repeat (first | with_reducible refine ret_in ?_ | with_reducible refine ret_then ?_)
  refine bodyPost_ret (results_tmp rfl _ _ _) A.2 ⟨?_, BB⟩
  show Ending.returned (a.eval (.tmp 2)) = _
  rw [t2]
set_option maxRecDepth 100000 in
set_option maxHeartbeats 4000000 in
theorem pbounds (k : Int) (V : World) (hk : k ≤ 17592186044416) :
  Calls Try.prog 44 #[.int .i64 k] V fun e w' => ∃ r, e = .returned r ∧ w'.ownsRow V.heap.size 3 1 r (k - 1).toNat (intsL (k - 1).toNat (fun j => k - (j : Int))) ∧ Below V.heap.size V w' := by
 obtain ⟨n, hkn⟩ : ∃ n, (k - 1).toNat = n := ⟨_, rfl⟩
 have hn17 : n ≤ 17592186044416 := by omega
 rw [hkn]
 go_enter Try.func44, Try.ntmps44
 refine wp_seq ?_
 refine wp_region_sqK 21 [(0, 2)] (fun i_ => match i_ with | 0 => .slice none 0 0 | _ => undef) rfl (by kernel_rfl) (by decide) (by decide) ?_ ?_
 ·intro i_ hi_ a hf hv hn
  match i_, hi_ with
  | 0, _ => exact stepV rfl rfl (execAsgB rfl rfl) ⟨⟨_, rfl, rfl⟩, rfl⟩
  | k_ + 1, h_ => exact absurd h_ (by simp)
 intro a h1 h2 h3 h4
 have t0 : a.eval (.tmp 0) = .int .i64 k := (h3 0 (by decide)).trans rfl
 have A : a.tmps.size = 21 ∧ a.defers = [] := ⟨h1, h2⟩
 have BW : Below V.heap.size V V := Below.refl _ _
 clear h1 h2 h3 h4
 have BB := BW
 refine wp_seq ?_
 refine wp_se (σ := Nat) 21 [1, 2] [2] (fun k_ s X => match k_ with | 0 => Below V.heap.size V X | _ => Below V.heap.size V X ∧ (X.ownsRow V.heap.size 3 1 (.slice (some ⟨s, 0, none⟩) n n) (n) (intsL (n) (fun j => if j < 0 then k - (j : Int) else 0))) ∧ (V.heap.size ≤ s)) (fun s => fun i_ => match i_ with | 1 => .int .i64 ((n : Nat) : Int) | 2 => .slice (some ⟨s, 0, none⟩) n n | _ => undef) 0 A (BB) (And.intro ?_ (And.intro ?_ trivial)) ?_
 ·exact fun s a X e hS => stepC rfl rfl (execCall1 Try.func75 (by kernel_rfl) (by kernel_rfl) rfl ((e (.tmp 5)).trans t0)) (hkn ▸ pdrawsFor k X (by omega)) fun e w' hh => ⟨_, hh.1, s, ⟨_, rfl, rfl⟩, (hS).trans ((hh.2).mono (hS).size), ar⟩
 ·intro s a X e hS
  refine stepV rfl rfl (execMkN rfl (e (.tmp 6)) (e (.tmp 6)) hn17) ⟨X.heap.size, ⟨_, rfl, rfl⟩, ⟨(hS).trans (((belNew X _)).mono (hS).size), ownD_base (own_mkZ X n _ hn17 (fun j_ _ => if_neg (Nat.not_lt_zero _))) (hS).size, (hS).size⟩, (And.intro (fun _ => rfl) (And.intro (fun h => absurd h (by decide)) trivial))⟩
 rintro g3 a X1 A e (hS : Below V.heap.size V X1 ∧ (X1.ownsRow V.heap.size 3 1 (.slice (some ⟨g3, 0, none⟩) n n) (n) (intsL (n) (fun j => if j < 0 then k - (j : Int) else 0))) ∧ (V.heap.size ≤ g3))
 obtain ⟨BB, FO, Fg⟩ := hS
 have t3 : a.eval (.tmp 3) = .slice (some ⟨g3, 0, none⟩) n n := e _
 replace t0 := kt e t0
 clear e
 refine wp_seq (wp_seq ?_)
 refine wp_se 21 [1] [] (fun _ s X => Below V.heap.size V X ∧ (X.ownsRow V.heap.size 3 1 (.slice (some ⟨g3, 0, none⟩) n n) (n) (intsL (n) (fun j => if j < 0 then k - (j : Int) else 0))) ∧ (V.heap.size ≤ g3)) (fun s => fun i_ => match i_ with | 1 => .int .i64 ((n : Nat) : Int) | _ => undef) () A ⟨BB, FO, Fg⟩ (And.intro ?_ trivial) ?_
 ·exact fun s a X e hS => stepV rfl rfl (execLenI (len := n) rfl ((e (.tmp 8)).trans t3) (shpO hS.2.1)) ⟨s, ⟨_, rfl, rfl⟩, hS, ar⟩
 rintro _ a X2 A e (hS : Below V.heap.size V X2 ∧ (X2.ownsRow V.heap.size 3 1 (.slice (some ⟨g3, 0, none⟩) n n) (n) (intsL (n) (fun j => if j < 0 then k - (j : Int) else 0))) ∧ (V.heap.size ≤ g3))
 obtain ⟨BB, FO, Fg⟩ := hS
 have t9 : a.eval (.tmp 9) = .int .i64 ((n : Nat) : Int) := e _
 have t10 : a.eval (.tmp 10) = .int .i64 ((0 : Nat) : Int) := e _
 replace t0 := kt e t0
 replace t3 := kt e t3
 clear e
 refine wp_block ?_
 refine wp_loop (fun a W => ∃ (i : Nat), i ≤ n ∧ (a.tmps.size = 21 ∧ a.defers = []) ∧ a.eval (.tmp 0) = .int .i64 k ∧ a.eval (.tmp 3) = .slice (some ⟨g3, 0, none⟩) n n ∧ a.eval (.tmp 9) = .int .i64 ((n : Nat) : Int) ∧ a.eval (.tmp 10) = .int .i64 ((i : Nat) : Int) ∧ Below V.heap.size V W ∧ (W.ownsRow V.heap.size 3 1 (.slice (some ⟨g3, 0, none⟩) n n) (n) (intsL (n) (fun j => if j < i then k - (j : Int) else 0)))) (fun a _ => n - (intOf (a.eval (.tmp 10))).toNat) ⟨0, Nat.zero_le _, A, t0, t3, t9, t10, BB, FO⟩ ?_
 rintro a XL3 ⟨i, hi, A, t0, t3, t9, t10, BB, FO⟩
 have es := t10
 refine wp_seq ?_
 refine wp_se 21 [0] [] (fun _ s X => Below V.heap.size V X ∧ (X.ownsRow V.heap.size 3 1 (.slice (some ⟨g3, 0, none⟩) n n) (n) (intsL (n) (fun j => if j < i then k - (j : Int) else 0)))) (fun s => fun i_ => match i_ with | 0 => .bool (decide (i < n)) | _ => undef) () A ⟨BB, FO⟩ (And.intro ?_ trivial) ?_
 ·exact fun s a X e hS => stepV rfl rfl (execLtW (p := i) (q := n) rfl ((e (.tmp 10)).trans t10) ((e (.tmp 9)).trans t9)) ⟨s, ⟨_, rfl, rfl⟩, hS, ar⟩
 rintro _ a X3 A e (hS : Below V.heap.size V X3 ∧ (X3.ownsRow V.heap.size 3 1 (.slice (some ⟨g3, 0, none⟩) n n) (n) (intsL (n) (fun j => if j < i then k - (j : Int) else 0))))
 obtain ⟨BB, FO⟩ := hS
 have t11 : a.eval (.tmp 11) = .bool (decide (i < n)) := e _
 replace t0 := kt e t0
 replace t3 := kt e t3
 replace t9 := kt e t9
 replace t10 := kt e t10
 clear e
 refine wp_seq ?_
 by_cases hlt : i < n
 ·rw [decide_eq_true hlt] at t11
  refine wp_cond_true t11 (wp_skip ?_)
  clear t11
  refine wp_seq (wp_block ?_)
  refine wp_seq ?_
  refine wp_se 21 [] [] (fun _ s X => Below V.heap.size V X ∧ (X.ownsRow V.heap.size 3 1 (.slice (some ⟨g3, 0, none⟩) n n) (n) (intsL (n) (fun j => if j < i then k - (j : Int) else 0)))) (fun s => fun _ => undef) () A ⟨BB, FO⟩ trivial ?_
  rintro _ a X4 A e (hS : Below V.heap.size V X4 ∧ (X4.ownsRow V.heap.size 3 1 (.slice (some ⟨g3, 0, none⟩) n n) (n) (intsL (n) (fun j => if j < i then k - (j : Int) else 0))))
  obtain ⟨BB, FO⟩ := hS
  have t4 : a.eval (.tmp 4) = .int .i64 ((i : Nat) : Int) := (e _).trans t10
  replace t0 := kt e t0
  replace t3 := kt e t3
  replace t9 := kt e t9
  replace t10 := kt e t10
  clear e
  refine wp_se 21 [4, 5, 6] [6] (fun k_ s X => match k_ with | 0 => Below V.heap.size V X ∧ (X.ownsRow V.heap.size 3 1 (.slice (some ⟨g3, 0, none⟩) n n) (n) (intsL (n) (fun j => if j < i then k - (j : Int) else 0))) | _ => Below V.heap.size V X ∧ (X.ownsRow V.heap.size 3 1 (.slice (some ⟨g3, 0, none⟩) n n) (n) (intsL (n) (fun j => if j < (i + 1) then k - (j : Int) else 0)))) (fun s => fun i_ => match i_ with | 4 => .int .i64 (k - (i : Int)) | 5 => .pointer (some ⟨g3, 0 + i, none⟩) | _ => undef) () A ⟨BB, FO⟩ (And.intro ?_ (And.intro ?_ (And.intro ?_ trivial))) ?_
  ·exact fun s a X e hS => stepV rfl rfl (execSubIg (z := k - (i : Int)) rfl ((e (.tmp 15)).trans t0) ((e (.tmp 16)).trans t4) rfl (by omega) (by omega)) ⟨s, ⟨_, rfl, rfl⟩, hS, ar⟩
  ·exact fun s a X e hS => stepV rfl rfl (execIdxN (k := i) rfl ((e (.tmp 13)).trans t3) ((e (.tmp 14)).trans t4) hlt) ⟨s, ⟨_, rfl, rfl⟩, hS, ar⟩
  ·intro s a X e hS
   obtain ⟨hc_, hf_⟩ := own_cellI hS.2 hlt
   refine stepS rfl rfl (execStI9 rfl (e (.tmp 18)) (e (.tmp 17)) hc_ hf_) ⟨s, ⟨_, rfl, rfl⟩, ⟨(hS.1).setCell Fg _, own_fill hS.2 rfl⟩, ar⟩
  rintro _ a X5 A e (hS : Below V.heap.size V X5 ∧ (X5.ownsRow V.heap.size 3 1 (.slice (some ⟨g3, 0, none⟩) n n) (n) (intsL (n) (fun j => if j < (i + 1) then k - (j : Int) else 0))))
  obtain ⟨BB, FO2⟩ := hS
  replace t0 := kt e t0
  replace t3 := kt e t3
  replace t9 := kt e t9
  replace t10 := kt e t10
  clear e t4
  refine wp_se 21 [0] [] (fun _ s X => Below V.heap.size V X ∧ (X.ownsRow V.heap.size 3 1 (.slice (some ⟨g3, 0, none⟩) n n) (n) (intsL (n) (fun j => if j < (i + 1) then k - (j : Int) else 0)))) (fun s => fun i_ => match i_ with | 0 => .int .i64 ((i + 1 : Nat) : Int) | _ => undef) () A ⟨BB, FO2⟩ (And.intro ?_ trivial) ?_
  ·exact fun s a X e hS => stepV rfl rfl (execAd8 (p := i) (q := 1) rfl ((e (.tmp 10)).trans t10) rfl (by omega)) ⟨s, ⟨_, rfl, rfl⟩, hS, ar⟩
  rintro _ a X6 A e (hS : Below V.heap.size V X6 ∧ (X6.ownsRow V.heap.size 3 1 (.slice (some ⟨g3, 0, none⟩) n n) (n) (intsL (n) (fun j => if j < (i + 1) then k - (j : Int) else 0))))
  obtain ⟨BB, FO2⟩ := hS
  replace t10 : a.eval (.tmp 10) = .int .i64 ((i + 1 : Nat) : Int) := e _
  replace t0 := kt e t0
  replace t3 := kt e t3
  replace t9 := kt e t9
  clear e
  exact ⟨⟨i + 1, hlt, A, t0, t3, t9, t10, BB, FO2⟩, by show n - (intOf (a.eval (.tmp 10))).toNat < n - (intOf (Act.eval _ (.tmp 10))).toNat; rw [t10, es]; show n - (i + 1) < n - i; omega⟩
 ·rw [decide_eq_false hlt] at t11
  refine wp_cond_false t11 ?_
  refine wp_exit ?_
  first | with_reducible refine exit_in ?_ | with_reducible refine exit_then (exit_in ?_) | with_reducible refine exit_then (exit_then (exit_in ?_)) | refine exit_in ?_ | refine exit_then (exit_in ?_) | refine exit_then (exit_then (exit_in ?_))
  clear t11 es
  have hin : i = n := by omega
  rw [hin] at FO
  rw [intsL_congr (g := fun j => k - (j : Int)) (fun j hj => if_pos hj)] at FO
  refine wp_seq ?_
  refine wp_se 21 [] [] (fun _ s X => Below V.heap.size V X ∧ (X.ownsRow V.heap.size 3 1 (.slice (some ⟨g3, 0, none⟩) n n) (n) (intsL (n) (fun j => k - (j : Int))))) (fun s => fun _ => undef) () A ⟨BB, FO⟩ trivial ?_
  rintro _ a X7 A e (hS : Below V.heap.size V X7 ∧ (X7.ownsRow V.heap.size 3 1 (.slice (some ⟨g3, 0, none⟩) n n) (n) (intsL (n) (fun j => k - (j : Int)))))
  obtain ⟨BB, FO⟩ := hS
  have t2 : a.eval (.tmp 2) = .slice (some ⟨g3, 0, none⟩) n n := (e _).trans t3
  clear e t0 t3 t9 t10
  refine wp_ret ?_
  refine bodyPost_ret (results_tmp rfl _ _ _) A.2 ⟨_, ?_, FO, BB⟩
  show Ending.returned (a.eval (.tmp 2)) = _
  rw [t2]
set_option maxRecDepth 100000 in
set_option maxHeartbeats 4000000 in
theorem ptaken (f g : Nat → Int) (n m : Nat) (v u0 : Value) (V : World) (hv : SliceI V v n f) (hn17 : n ≤ 17592186044416) (hu : SliceI V u0 m g) (hfl : ∀ i, i < n → 0 ≤ f i ∧ f i < m) :
  Calls Try.prog 49 #[v, u0] V fun e w' => ∃ r, e = .returned r ∧ w'.ownsRow V.heap.size 3 1 r n (intsL n (fun j => g (f j).toNat)) ∧ Below V.heap.size V w' := by
 obtain ⟨ia, ic, rfl, -, -, hsh⟩ := id hv.shape
 obtain ⟨ja, jc, rfl, -, -, hsj⟩ := id hu.shape
 have FI := hv
 have FJ := hu
 go_enter Try.func49, Try.ntmps49
 refine wp_seq ?_
 refine wp_region_sqK 27 [(0, 4)] (fun i_ => match i_ with | 0 => .slice none 0 0 | _ => undef) rfl (by kernel_rfl) (by decide) (by decide) ?_ ?_
 ·intro i_ hi_ a hf hv hn
  match i_, hi_ with
  | 0, _ => exact stepV rfl rfl (execAsgB rfl rfl) ⟨⟨_, rfl, rfl⟩, rfl⟩
  | k_ + 1, h_ => exact absurd h_ (by simp)
 intro a h1 h2 h3 h4
 have t0 : a.eval (.tmp 0) = .slice ia n ic := (h3 0 (by decide)).trans rfl
 have t1 : a.eval (.tmp 1) = .slice ja m jc := (h3 1 (by decide)).trans rfl
 have A : a.tmps.size = 27 ∧ a.defers = [] := ⟨h1, h2⟩
 have BW : Below V.heap.size V V := Below.refl _ _
 clear h1 h2 h3 h4
 have BB := BW
 refine wp_seq ?_
 refine wp_se (σ := Nat) 27 [1, 2] [2] (fun k_ s X => match k_ with | 0 => Below V.heap.size V X | _ => Below V.heap.size V X ∧ (X.ownsRow V.heap.size 3 1 (.slice (some ⟨s, 0, none⟩) n n) (n) (intsL (n) (fun j => if j < 0 then g (f j).toNat else 0))) ∧ (V.heap.size ≤ s)) (fun s => fun i_ => match i_ with | 1 => .int .i64 ((n : Nat) : Int) | 2 => .slice (some ⟨s, 0, none⟩) n n | _ => undef) 0 A (BB) (And.intro ?_ (And.intro ?_ trivial)) ?_
 ·exact fun s a X e hS => stepV rfl rfl (execLenI (len := n) rfl ((e (.tmp 8)).trans t0) ((FI.on hS)).shp) ⟨s, ⟨_, rfl, rfl⟩, hS, ar⟩
 ·intro s a X e hS
  refine stepV rfl rfl (execMkN rfl (e (.tmp 9)) (e (.tmp 9)) hn17) ⟨X.heap.size, ⟨_, rfl, rfl⟩, ⟨(hS).trans (((belNew X _)).mono (hS).size), ownD_base (own_mkZ X n _ hn17 (fun j_ _ => if_neg (Nat.not_lt_zero _))) (hS).size, (hS).size⟩, (And.intro (fun _ => rfl) (And.intro (fun h => absurd h (by decide)) trivial))⟩
 rintro g5 a X1 A e (hS : Below V.heap.size V X1 ∧ (X1.ownsRow V.heap.size 3 1 (.slice (some ⟨g5, 0, none⟩) n n) (n) (intsL (n) (fun j => if j < 0 then g (f j).toNat else 0))) ∧ (V.heap.size ≤ g5))
 obtain ⟨BB, FO, Fg⟩ := hS
 have t5 : a.eval (.tmp 5) = .slice (some ⟨g5, 0, none⟩) n n := e _
 replace t0 := kt e t0
 replace t1 := kt e t1
 clear e
 refine wp_seq (wp_seq ?_)
 refine wp_se 27 [1] [] (fun _ s X => Below V.heap.size V X ∧ (X.ownsRow V.heap.size 3 1 (.slice (some ⟨g5, 0, none⟩) n n) (n) (intsL (n) (fun j => if j < 0 then g (f j).toNat else 0))) ∧ (V.heap.size ≤ g5)) (fun s => fun i_ => match i_ with | 1 => .int .i64 ((n : Nat) : Int) | _ => undef) () A ⟨BB, FO, Fg⟩ (And.intro ?_ trivial) ?_
 ·exact fun s a X e hS => stepV rfl rfl (execLenI (len := n) rfl ((e (.tmp 11)).trans t0) ((FI.on hS.1)).shp) ⟨s, ⟨_, rfl, rfl⟩, hS, ar⟩
 rintro _ a X2 A e (hS : Below V.heap.size V X2 ∧ (X2.ownsRow V.heap.size 3 1 (.slice (some ⟨g5, 0, none⟩) n n) (n) (intsL (n) (fun j => if j < 0 then g (f j).toNat else 0))) ∧ (V.heap.size ≤ g5))
 obtain ⟨BB, FO, Fg⟩ := hS
 have t11 : a.eval (.tmp 11) = .slice ia n ic := (e _).trans t0
 have t12 : a.eval (.tmp 12) = .int .i64 ((n : Nat) : Int) := e _
 have t13 : a.eval (.tmp 13) = .int .i64 ((0 : Nat) : Int) := e _
 replace t1 := kt e t1
 replace t5 := kt e t5
 clear e t0
 refine wp_block ?_
 refine wp_loop (fun a W => ∃ (i : Nat), i ≤ n ∧ (a.tmps.size = 27 ∧ a.defers = []) ∧ a.eval (.tmp 1) = .slice ja m jc ∧ a.eval (.tmp 5) = .slice (some ⟨g5, 0, none⟩) n n ∧ a.eval (.tmp 11) = .slice ia n ic ∧ a.eval (.tmp 12) = .int .i64 ((n : Nat) : Int) ∧ a.eval (.tmp 13) = .int .i64 ((i : Nat) : Int) ∧ Below V.heap.size V W ∧ (W.ownsRow V.heap.size 3 1 (.slice (some ⟨g5, 0, none⟩) n n) (n) (intsL (n) (fun j => if j < i then g (f j).toNat else 0)))) (fun a _ => n - (intOf (a.eval (.tmp 13))).toNat) ⟨0, Nat.zero_le _, A, t1, t5, t11, t12, t13, BB, FO⟩ ?_
 rintro a XL3 ⟨i, hi, A, t1, t5, t11, t12, t13, BB, FO⟩
 have es := t13
 refine wp_seq ?_
 refine wp_se 27 [0] [] (fun _ s X => Below V.heap.size V X ∧ (X.ownsRow V.heap.size 3 1 (.slice (some ⟨g5, 0, none⟩) n n) (n) (intsL (n) (fun j => if j < i then g (f j).toNat else 0)))) (fun s => fun i_ => match i_ with | 0 => .bool (decide (i < n)) | _ => undef) () A ⟨BB, FO⟩ (And.intro ?_ trivial) ?_
 ·exact fun s a X e hS => stepV rfl rfl (execLtW (p := i) (q := n) rfl ((e (.tmp 13)).trans t13) ((e (.tmp 12)).trans t12)) ⟨s, ⟨_, rfl, rfl⟩, hS, ar⟩
 rintro _ a X3 A e (hS : Below V.heap.size V X3 ∧ (X3.ownsRow V.heap.size 3 1 (.slice (some ⟨g5, 0, none⟩) n n) (n) (intsL (n) (fun j => if j < i then g (f j).toNat else 0))))
 obtain ⟨BB, FO⟩ := hS
 have t14 : a.eval (.tmp 14) = .bool (decide (i < n)) := e _
 replace t1 := kt e t1
 replace t5 := kt e t5
 replace t11 := kt e t11
 replace t12 := kt e t12
 replace t13 := kt e t13
 clear e
 refine wp_seq ?_
 by_cases hlt : i < n
 ·rw [decide_eq_true hlt] at t14
  refine wp_cond_true t14 (wp_skip ?_)
  clear t14
  refine wp_seq (wp_block ?_)
  obtain ⟨w, ew⟩ : ∃ w : Nat, f i = w := ⟨(f i).toNat, by have := hfl i hlt; omega⟩
  have hw : w < m := by have := hfl i hlt; omega
  obtain ⟨ib, io, rfl, hib, hcell⟩ := hsh (by omega)
  have cI : ∀ k, k < n → ∀ X, Below V.heap.size V X → X.cell? ⟨ib, io + k, none⟩ = some (.int .i64 (f k)) := fun k hk X hX => by rw [cell_below hX hib]; exact hcell k hk
  have cW : ∀ X, Below V.heap.size V X → X.cell? ⟨ib, io + i, none⟩ = some (.int .i64 ((w : Nat) : Int)) := fun X hX => by rw [cI i hlt X hX, ew]
  obtain ⟨jb, jo, rfl, hjb, hcelj⟩ := hsj (by omega)
  have cJ : ∀ X, Below V.heap.size V X → X.cell? ⟨jb, jo + w, none⟩ = some (.int .i64 (g (f i).toNat)) := fun X hX => by rw [cell_below hX hjb, hcelj w hw, ew]; rfl
  refine wp_seq ?_
  refine wp_se 27 [1, 2] [] (fun _ s X => Below V.heap.size V X ∧ (X.ownsRow V.heap.size 3 1 (.slice (some ⟨g5, 0, none⟩) n n) (n) (intsL (n) (fun j => if j < i then g (f j).toNat else 0)))) (fun s => fun i_ => match i_ with | 1 => .pointer (some ⟨ib, io + i, none⟩) | 2 => .int .i64 ((w : Nat) : Int) | _ => undef) () A ⟨BB, FO⟩ (And.intro ?_ (And.intro ?_ trivial)) ?_
  ·exact fun s a X e hS => stepV rfl rfl (execIdxN (k := i) rfl ((e (.tmp 11)).trans t11) ((e (.tmp 13)).trans t13) hlt) ⟨s, ⟨_, rfl, rfl⟩, hS, ar⟩
  ·exact fun s a X e hS => stepV rfl rfl (execLd3 rfl (e (.tmp 16)) (cW X hS.1)) ⟨s, ⟨_, rfl, rfl⟩, hS, ar⟩
  rintro _ a X4 A e (hS : Below V.heap.size V X4 ∧ (X4.ownsRow V.heap.size 3 1 (.slice (some ⟨g5, 0, none⟩) n n) (n) (intsL (n) (fun j => if j < i then g (f j).toNat else 0))))
  obtain ⟨BB, FO⟩ := hS
  have t6 : a.eval (.tmp 6) = .int .i64 ((i : Nat) : Int) := (e _).trans t13
  have t7 : a.eval (.tmp 7) = .int .i64 ((w : Nat) : Int) := e _
  replace t1 := kt e t1
  replace t5 := kt e t5
  replace t11 := kt e t11
  replace t12 := kt e t12
  replace t13 := kt e t13
  clear e
  refine wp_se 27 [4, 5, 6, 7] [7] (fun k_ s X => match k_ with | 0 => Below V.heap.size V X ∧ (X.ownsRow V.heap.size 3 1 (.slice (some ⟨g5, 0, none⟩) n n) (n) (intsL (n) (fun j => if j < i then g (f j).toNat else 0))) | _ => Below V.heap.size V X ∧ (X.ownsRow V.heap.size 3 1 (.slice (some ⟨g5, 0, none⟩) n n) (n) (intsL (n) (fun j => if j < (i + 1) then g (f j).toNat else 0)))) (fun s => fun i_ => match i_ with | 4 => .pointer (some ⟨jb, jo + w, none⟩) | 5 => .int .i64 (g (f i).toNat) | 6 => .pointer (some ⟨g5, 0 + i, none⟩) | _ => undef) () A ⟨BB, FO⟩ (And.intro ?_ (And.intro ?_ (And.intro ?_ (And.intro ?_ trivial)))) ?_
  ·exact fun s a X e hS => stepV rfl rfl (execIdxN (k := w) rfl ((e (.tmp 20)).trans t1) ((e (.tmp 21)).trans t7) hw) ⟨s, ⟨_, rfl, rfl⟩, hS, ar⟩
  ·exact fun s a X e hS => stepV rfl rfl (execLd3 rfl (e (.tmp 22)) (cJ X hS.1)) ⟨s, ⟨_, rfl, rfl⟩, hS, ar⟩
  ·exact fun s a X e hS => stepV rfl rfl (execIdxN (k := i) rfl ((e (.tmp 18)).trans t5) ((e (.tmp 19)).trans t6) hlt) ⟨s, ⟨_, rfl, rfl⟩, hS, ar⟩
  ·intro s a X e hS
   obtain ⟨hc_, hf_⟩ := own_cellI hS.2 hlt
   refine stepS rfl rfl (execStI9 rfl (e (.tmp 24)) (e (.tmp 23)) hc_ hf_) ⟨s, ⟨_, rfl, rfl⟩, ⟨(hS.1).setCell Fg _, own_fill (F := fun j => g (f j).toNat) hS.2 rfl⟩, ar⟩
  rintro _ a X5 A e (hS : Below V.heap.size V X5 ∧ (X5.ownsRow V.heap.size 3 1 (.slice (some ⟨g5, 0, none⟩) n n) (n) (intsL (n) (fun j => if j < (i + 1) then g (f j).toNat else 0))))
  obtain ⟨BB, FO2⟩ := hS
  replace t1 := kt e t1
  replace t5 := kt e t5
  replace t11 := kt e t11
  replace t12 := kt e t12
  replace t13 := kt e t13
  clear e t6 t7
  refine wp_se 27 [0] [] (fun _ s X => Below V.heap.size V X ∧ (X.ownsRow V.heap.size 3 1 (.slice (some ⟨g5, 0, none⟩) n n) (n) (intsL (n) (fun j => if j < (i + 1) then g (f j).toNat else 0)))) (fun s => fun i_ => match i_ with | 0 => .int .i64 ((i + 1 : Nat) : Int) | _ => undef) () A ⟨BB, FO2⟩ (And.intro ?_ trivial) ?_
  ·exact fun s a X e hS => stepV rfl rfl (execAd8 (p := i) (q := 1) rfl ((e (.tmp 13)).trans t13) rfl (by omega)) ⟨s, ⟨_, rfl, rfl⟩, hS, ar⟩
  rintro _ a X6 A e (hS : Below V.heap.size V X6 ∧ (X6.ownsRow V.heap.size 3 1 (.slice (some ⟨g5, 0, none⟩) n n) (n) (intsL (n) (fun j => if j < (i + 1) then g (f j).toNat else 0))))
  obtain ⟨BB, FO2⟩ := hS
  replace t13 : a.eval (.tmp 13) = .int .i64 ((i + 1 : Nat) : Int) := e _
  replace t1 := kt e t1
  replace t5 := kt e t5
  replace t11 := kt e t11
  replace t12 := kt e t12
  clear e
  exact ⟨⟨i + 1, hlt, A, t1, t5, t11, t12, t13, BB, FO2⟩, by show n - (intOf (a.eval (.tmp 13))).toNat < n - (intOf (Act.eval _ (.tmp 13))).toNat; rw [t13, es]; show n - (i + 1) < n - i; omega⟩
 ·rw [decide_eq_false hlt] at t14
  refine wp_cond_false t14 ?_
  refine wp_exit ?_
  first | with_reducible refine exit_in ?_ | with_reducible refine exit_then (exit_in ?_) | with_reducible refine exit_then (exit_then (exit_in ?_)) | refine exit_in ?_ | refine exit_then (exit_in ?_) | refine exit_then (exit_then (exit_in ?_))
  clear t14 es
  have hin : i = n := by omega
  rw [hin] at FO
  rw [intsL_congr (g := fun j => g (f j).toNat) (fun j hj => if_pos hj)] at FO
  refine wp_seq ?_
  refine wp_se 27 [] [] (fun _ s X => Below V.heap.size V X ∧ (X.ownsRow V.heap.size 3 1 (.slice (some ⟨g5, 0, none⟩) n n) (n) (intsL (n) (fun j => g (f j).toNat)))) (fun s => fun _ => undef) () A ⟨BB, FO⟩ trivial ?_
  rintro _ a X7 A e (hS : Below V.heap.size V X7 ∧ (X7.ownsRow V.heap.size 3 1 (.slice (some ⟨g5, 0, none⟩) n n) (n) (intsL (n) (fun j => g (f j).toNat))))
  obtain ⟨BB, FO⟩ := hS
  have t4 : a.eval (.tmp 4) = .slice (some ⟨g5, 0, none⟩) n n := (e _).trans t5
  clear e t1 t5 t11 t12 t13
  refine wp_ret ?_
  refine bodyPost_ret (results_tmp rfl _ _ _) A.2 ⟨_, ?_, FO, BB⟩
  show Ending.returned (a.eval (.tmp 4)) = _
  rw [t4]
set_option maxRecDepth 100000 in
set_option maxHeartbeats 4000000 in
theorem pareBelow (N : Nat) (d : Nat → Int) (m : Nat) (v : Value) (V : World) (hv : SliceI V v m d) (hm17 : m ≤ 17592186044416) (hN : N ≤ 17592186044417) (hmN : m ≤ N) :
  Calls Try.prog 76 #[v, .int .i64 ((N : Nat) : Int)] V fun e w' => e = .returned (.bool (fitQ d N m)) ∧ Below V.heap.size V w' := by
 obtain ⟨ia, ic, rfl, -, -, hsh⟩ := id hv.shape
 have FI := hv
 go_enter Try.func76, Try.ntmps76
 refine wp_seq ?_
 refine wp_region_sqK 24 [(0, 4)] (fun i_ => match i_ with | 0 => .bool false | _ => undef) rfl (by kernel_rfl) (by decide) (by decide) ?_ ?_
 ·intro i_ hi_ a hf hv hn
  match i_, hi_ with
  | 0, _ => exact stepV rfl rfl (execAsgB rfl rfl) ⟨⟨_, rfl, rfl⟩, rfl⟩
  | k_ + 1, h_ => exact absurd h_ (by simp)
 intro a h1 h2 h3 h4
 have t0 : a.eval (.tmp 0) = .slice ia m ic := (h3 0 (by decide)).trans rfl
 have t1 : a.eval (.tmp 1) = .int .i64 ((N : Nat) : Int) := (h3 1 (by decide)).trans rfl
 have A : a.tmps.size = 24 ∧ a.defers = [] := ⟨h1, h2⟩
 have BW : Below V.heap.size V V := Below.refl _ _
 clear h1 h2 h3 h4
 have BB := BW
 refine wp_seq (wp_seq ?_)
 refine wp_se 24 [1] [] (fun _ s X => Below V.heap.size V X) (fun s => fun i_ => match i_ with | 1 => .int .i64 ((m : Nat) : Int) | _ => undef) () A (BB) (And.intro ?_ trivial) ?_
 ·exact fun s a X e hS => stepV rfl rfl (execLenI (len := m) rfl ((e (.tmp 7)).trans t0) ((FI.on hS)).shp) ⟨s, ⟨_, rfl, rfl⟩, hS, ar⟩
 rintro _ a X1 A e (BB : Below V.heap.size V X1)
 have t7 : a.eval (.tmp 7) = .slice ia m ic := (e _).trans t0
 have t8 : a.eval (.tmp 8) = .int .i64 ((m : Nat) : Int) := e _
 have t9 : a.eval (.tmp 9) = .int .i64 ((0 : Nat) : Int) := e _
 replace t1 := kt e t1
 clear e t0
 refine wp_block ?_
 refine wp_loop (fun a W => ∃ (i : Nat), i ≤ m ∧ (fitQ d N i = true) ∧ (a.tmps.size = 24 ∧ a.defers = []) ∧ a.eval (.tmp 1) = .int .i64 ((N : Nat) : Int) ∧ a.eval (.tmp 7) = .slice ia m ic ∧ a.eval (.tmp 8) = .int .i64 ((m : Nat) : Int) ∧ a.eval (.tmp 9) = .int .i64 ((i : Nat) : Int) ∧ Below V.heap.size V W) (fun a _ => m - (intOf (a.eval (.tmp 9))).toNat) ⟨0, Nat.zero_le _, rfl, A, t1, t7, t8, t9, BB⟩ ?_
 rintro a XL2 ⟨i, hi, hok, A, t1, t7, t8, t9, BB⟩
 have es := t9
 refine wp_seq ?_
 refine wp_se 24 [0] [] (fun _ s X => Below V.heap.size V X) (fun s => fun i_ => match i_ with | 0 => .bool (decide (i < m)) | _ => undef) () A (BB) (And.intro ?_ trivial) ?_
 ·exact fun s a X e hS => stepV rfl rfl (execLtW (p := i) (q := m) rfl ((e (.tmp 9)).trans t9) ((e (.tmp 8)).trans t8)) ⟨s, ⟨_, rfl, rfl⟩, hS, ar⟩
 rintro _ a X2 A e (BB : Below V.heap.size V X2)
 have t10 : a.eval (.tmp 10) = .bool (decide (i < m)) := e _
 replace t1 := kt e t1
 replace t7 := kt e t7
 replace t8 := kt e t8
 replace t9 := kt e t9
 clear e
 refine wp_seq ?_
 by_cases hlt : i < m
 ·rw [decide_eq_true hlt] at t10
  refine wp_cond_true t10 (wp_skip ?_)
  clear t10
  refine wp_seq (wp_block ?_)
  obtain ⟨ib, io, rfl, hib, hcell⟩ := hsh (by omega)
  have cI : ∀ k, k < m → ∀ X, Below V.heap.size V X → X.cell? ⟨ib, io + k, none⟩ = some (.int .i64 (d k)) := fun k hk X hX => by rw [cell_below hX hib]; exact hcell k hk
  by_cases h1 : d i < 0
  ·refine wp_seq ?_
   refine wp_se 24 [1, 2] [] (fun _ s X => Below V.heap.size V X) (fun s => fun i_ => match i_ with | 1 => .pointer (some ⟨ib, io + i, none⟩) | 2 => .int .i64 (d i) | _ => undef) () A (BB) (And.intro ?_ (And.intro ?_ trivial)) ?_
   ·exact fun s a X e hS => stepV rfl rfl (execIdxN (k := i) rfl ((e (.tmp 7)).trans t7) ((e (.tmp 9)).trans t9) hlt) ⟨s, ⟨_, rfl, rfl⟩, hS, ar⟩
   ·exact fun s a X e hS => stepV rfl rfl (execLd3 rfl (e (.tmp 12)) (cI i hlt X hS)) ⟨s, ⟨_, rfl, rfl⟩, hS, ar⟩
   rintro _ a X3 A e (BB : Below V.heap.size V X3)
   have t5 : a.eval (.tmp 5) = .int .i64 ((i : Nat) : Int) := (e _).trans t9
   have t6 : a.eval (.tmp 6) = .int .i64 (d i) := e _
   replace t1 := kt e t1
   replace t7 := kt e t7
   replace t8 := kt e t8
   replace t9 := kt e t9
   clear e
   refine wp_seq ?_
   refine wp_se 24 [1] [] (fun _ s X => Below V.heap.size V X) (fun s => fun i_ => match i_ with | 1 => .bool true | _ => undef) () A (BB) (And.intro ?_ trivial) ?_
   ·exact fun s a X e hS => stepV rfl rfl (execLtCt (p := (d i)) (q := 0) rfl ((e (.tmp 14)).trans t6) (by exact h1)) ⟨s, ⟨_, rfl, rfl⟩, hS, ar⟩
   rintro _ a X4 A e (BB : Below V.heap.size V X4)
   have t22 : a.eval (.tmp 22) = .bool true := e _
   replace t1 := kt e t1
   replace t7 := kt e t7
   replace t8 := kt e t8
   replace t9 := kt e t9
   clear e t5 t6
   refine wp_cond_true t22 ?_
   refine wp_seq ?_
   refine wp_se 24 [] [] (fun _ s X => Below V.heap.size V X) (fun s => fun _ => undef) () A (BB) trivial ?_
   rintro _ a X5 A e (BB : Below V.heap.size V X5)
   have t4 : a.eval (.tmp 4) = .bool false := e _
   clear e t1 t7 t8 t9 t22
   have hy : fitQ d N m = false := fitQ_bad hlt (by omega)
   rw [hy]
   refine wp_ret ?_
   repeat (first | with_reducible refine ret_in ?_ | with_reducible refine ret_then ?_)
   refine bodyPost_ret (results_tmp rfl _ _ _) A.2 ⟨?_, BB⟩
   show Ending.returned (a.eval (.tmp 4)) = _
   rw [t4]
  ·by_cases h2 : (N : Int) - i ≤ d i
   ·obtain ⟨w, ew⟩ : ∃ w : Nat, d i = w := ⟨(d i).toNat, by omega⟩
    have cW : ∀ X, Below V.heap.size V X → X.cell? ⟨ib, io + i, none⟩ = some (.int .i64 ((w : Nat) : Int)) := fun X hX => by rw [cI i hlt X hX, ew]
    refine wp_seq ?_
    refine wp_se 24 [1, 2] [] (fun _ s X => Below V.heap.size V X) (fun s => fun i_ => match i_ with | 1 => .pointer (some ⟨ib, io + i, none⟩) | 2 => .int .i64 ((w : Nat) : Int) | _ => undef) () A (BB) (And.intro ?_ (And.intro ?_ trivial)) ?_
    ·exact fun s a X e hS => stepV rfl rfl (execIdxN (k := i) rfl ((e (.tmp 7)).trans t7) ((e (.tmp 9)).trans t9) hlt) ⟨s, ⟨_, rfl, rfl⟩, hS, ar⟩
    ·exact fun s a X e hS => stepV rfl rfl (execLd3 rfl (e (.tmp 12)) (cW X hS)) ⟨s, ⟨_, rfl, rfl⟩, hS, ar⟩
    rintro _ a X3 A e (BB : Below V.heap.size V X3)
    have t5 : a.eval (.tmp 5) = .int .i64 ((i : Nat) : Int) := (e _).trans t9
    have t6 : a.eval (.tmp 6) = .int .i64 ((w : Nat) : Int) := e _
    replace t1 := kt e t1
    replace t7 := kt e t7
    replace t8 := kt e t8
    replace t9 := kt e t9
    clear e
    refine wp_seq ?_
    refine wp_se 24 [1, 6, 7] [] (fun _ s X => Below V.heap.size V X) (fun s => fun i_ => match i_ with | 1 => .bool false | 6 => .int .i64 ((N - i : Nat) : Int) | 7 => .bool true | _ => undef) () A (BB) (And.intro ?_ (And.intro ?_ (And.intro ?_ trivial))) ?_
    ·exact fun s a X e hS => stepV rfl rfl (execDec (execLtW (p := w) (q := 0) rfl ((e (.tmp 14)).trans t6) rfl) (decide_eq_false (by omega))) ⟨s, ⟨_, rfl, rfl⟩, hS, ar⟩
    ·exact fun s a X e hS => stepV rfl (wy rfl rfl rfl (e (.tmp 16))) (By8.execSubI (p := N) (q := i) rfl ((e (.tmp 18)).trans t1) ((e (.tmp 19)).trans t5) (by omega) (by omega)) ⟨s, ⟨_, rfl, rfl⟩, hS, ar⟩
    ·exact fun s a X e hS => stepV rfl (wy rfl rfl rfl (e (.tmp 16))) (execDec (execGe8 (p := w) (q := N - i) rfl ((e (.tmp 17)).trans t6) (e (.tmp 20))) (decide_eq_true (by omega))) ⟨s, ⟨_, rfl, rfl⟩, hS, ar⟩
    rintro _ a X4 A e (BB : Below V.heap.size V X4)
    have t22 : a.eval (.tmp 22) = .bool true := e _
    replace t1 := kt e t1
    replace t7 := kt e t7
    replace t8 := kt e t8
    replace t9 := kt e t9
    clear e t5 t6
    refine wp_cond_true t22 ?_
    refine wp_seq ?_
    refine wp_se 24 [] [] (fun _ s X => Below V.heap.size V X) (fun s => fun _ => undef) () A (BB) trivial ?_
    rintro _ a X5 A e (BB : Below V.heap.size V X5)
    have t4 : a.eval (.tmp 4) = .bool false := e _
    clear e t1 t7 t8 t9 t22
    have hy : fitQ d N m = false := fitQ_bad hlt (by omega)
    rw [hy]
    refine wp_ret ?_
    repeat (first | with_reducible refine ret_in ?_ | with_reducible refine ret_then ?_)
    refine bodyPost_ret (results_tmp rfl _ _ _) A.2 ⟨?_, BB⟩
    show Ending.returned (a.eval (.tmp 4)) = _
    rw [t4]
   ·obtain ⟨w, ew⟩ : ∃ w : Nat, d i = w := ⟨(d i).toNat, by omega⟩
    have cW : ∀ X, Below V.heap.size V X → X.cell? ⟨ib, io + i, none⟩ = some (.int .i64 ((w : Nat) : Int)) := fun X hX => by rw [cI i hlt X hX, ew]
    refine wp_seq ?_
    refine wp_se 24 [1, 2] [] (fun _ s X => Below V.heap.size V X) (fun s => fun i_ => match i_ with | 1 => .pointer (some ⟨ib, io + i, none⟩) | 2 => .int .i64 ((w : Nat) : Int) | _ => undef) () A (BB) (And.intro ?_ (And.intro ?_ trivial)) ?_
    ·exact fun s a X e hS => stepV rfl rfl (execIdxN (k := i) rfl ((e (.tmp 7)).trans t7) ((e (.tmp 9)).trans t9) hlt) ⟨s, ⟨_, rfl, rfl⟩, hS, ar⟩
    ·exact fun s a X e hS => stepV rfl rfl (execLd3 rfl (e (.tmp 12)) (cW X hS)) ⟨s, ⟨_, rfl, rfl⟩, hS, ar⟩
    rintro _ a X3 A e (BB : Below V.heap.size V X3)
    have t5 : a.eval (.tmp 5) = .int .i64 ((i : Nat) : Int) := (e _).trans t9
    have t6 : a.eval (.tmp 6) = .int .i64 ((w : Nat) : Int) := e _
    replace t1 := kt e t1
    replace t7 := kt e t7
    replace t8 := kt e t8
    replace t9 := kt e t9
    clear e
    refine wp_seq ?_
    refine wp_se 24 [1, 6, 7] [] (fun _ s X => Below V.heap.size V X) (fun s => fun i_ => match i_ with | 1 => .bool false | 6 => .int .i64 ((N - i : Nat) : Int) | 7 => .bool false | _ => undef) () A (BB) (And.intro ?_ (And.intro ?_ (And.intro ?_ trivial))) ?_
    ·exact fun s a X e hS => stepV rfl rfl (execDec (execLtW (p := w) (q := 0) rfl ((e (.tmp 14)).trans t6) rfl) (decide_eq_false (by omega))) ⟨s, ⟨_, rfl, rfl⟩, hS, ar⟩
    ·exact fun s a X e hS => stepV rfl (wy rfl rfl rfl (e (.tmp 16))) (By8.execSubI (p := N) (q := i) rfl ((e (.tmp 18)).trans t1) ((e (.tmp 19)).trans t5) (by omega) (by omega)) ⟨s, ⟨_, rfl, rfl⟩, hS, ar⟩
    ·exact fun s a X e hS => stepV rfl (wy rfl rfl rfl (e (.tmp 16))) (execDec (execGe8 (p := w) (q := N - i) rfl ((e (.tmp 17)).trans t6) (e (.tmp 20))) (decide_eq_false (by omega))) ⟨s, ⟨_, rfl, rfl⟩, hS, ar⟩
    rintro _ a X4 A e (BB : Below V.heap.size V X4)
    have t22 : a.eval (.tmp 22) = .bool false := e _
    replace t1 := kt e t1
    replace t7 := kt e t7
    replace t8 := kt e t8
    replace t9 := kt e t9
    clear e t5 t6
    refine wp_cond_false t22 (wp_skip ?_)
    clear t22
    refine wp_se 24 [0] [] (fun _ s X => Below V.heap.size V X) (fun s => fun i_ => match i_ with | 0 => .int .i64 ((i + 1 : Nat) : Int) | _ => undef) () A (BB) (And.intro ?_ trivial) ?_
    ·exact fun s a X e hS => stepV rfl rfl (execAd8 (p := i) (q := 1) rfl ((e (.tmp 9)).trans t9) rfl (by omega)) ⟨s, ⟨_, rfl, rfl⟩, hS, ar⟩
    rintro _ a X6 A e (BB : Below V.heap.size V X6)
    replace t9 : a.eval (.tmp 9) = .int .i64 ((i + 1 : Nat) : Int) := e _
    replace t1 := kt e t1
    replace t7 := kt e t7
    replace t8 := kt e t8
    clear e
    exact ⟨⟨i + 1, hlt, fitQ_succ hok (by omega), A, t1, t7, t8, t9, BB⟩, by show m - (intOf (a.eval (.tmp 9))).toNat < m - (intOf (Act.eval _ (.tmp 9))).toNat; rw [t9, es]; show m - (i + 1) < m - i; omega⟩
 ·rw [decide_eq_false hlt] at t10
  refine wp_cond_false t10 ?_
  refine wp_exit ?_
  first | with_reducible refine exit_in ?_ | with_reducible refine exit_then (exit_in ?_) | with_reducible refine exit_then (exit_then (exit_in ?_)) | refine exit_in ?_ | refine exit_then (exit_in ?_) | refine exit_then (exit_then (exit_in ?_))
  clear t10 es
  have hin : i = m := by omega
  rw [hin] at hok
  rw [hok]
  refine wp_seq ?_
  refine wp_se 24 [] [] (fun _ s X => Below V.heap.size V X) (fun s => fun _ => undef) () A (BB) trivial ?_
  rintro _ a X7 A e (BB : Below V.heap.size V X7)
  have t4 : a.eval (.tmp 4) = .bool true := e _
  clear e t1 t7 t8 t9
  refine wp_ret ?_
  repeat (first | with_reducible refine ret_in ?_ | with_reducible refine ret_then ?_)
  refine bodyPost_ret (results_tmp rfl _ _ _) A.2 ⟨?_, BB⟩
  show Ending.returned (a.eval (.tmp 4)) = _
  rw [t4]
end Go.Proofs.Ytmjpneaccjlpkaa.Prm
