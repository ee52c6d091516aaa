import Derived.Test.YtijibdapooalcabC9p
namespace Go.Proofs.Ytijibdapooalcab.Win
open Go.RowKit Gf8 Aes By8 Cel Cf
/- The laws' tag and some; what the program's package keeps. Written by tools/mkC9q.py. -/

/-- A window that is handed in. -/
structure Wd (V : World) (nw : Int) (ev : Value) (n : Nat) (nu : Nat → Int) (tw : Nat → Value) (ln : Nat → Nat) (t : Nat → Nat → Nat → Nat) : Prop where
  eps : Eps V ev n nu tw ln t
  n32 : n * 32 ≤ 140737488351232
  ln16 : ∀ j, j < n → ln j * 16 ≤ 140737488351232
  num : I64 nw
theorem Wd.on {V W : World} {nw : Int} {ev : Value} {n : Nat} {nu : Nat → Int} {tw : Nat → Value} {ln : Nat → Nat} {t : Nat → Nat → Nat → Nat} (h : Wd V nw ev n nu tw ln t) (hb : Below V.heap.size V W) : Wd W nw ev n nu tw ln t := ⟨h.eps.on hb, h.n32, h.ln16, h.num⟩
theorem Wd.n63 {V : World} {nw : Int} {ev : Value} {n : Nat} {nu : Nat → Int} {tw : Nat → Value} {ln : Nat → Nat} {t : Nat → Nat → Nat → Nat} (h : Wd V nw ev n nu tw ln t) : n < 9223372036854775808 := by have := h.n32; omega
theorem Wd.ln43 {V : World} {nw : Int} {ev : Value} {n : Nat} {nu : Nat → Int} {tw : Nat → Value} {ln : Nat → Nat} {t : Nat → Nat → Nat → Nat} (h : Wd V nw ev n nu tw ln t) : ∀ j, j < n → ln j ≤ 8796093022208 := fun j hj => by have := h.ln16 j hj; omega
/-- What the program's package keeps. -/
structure Impl : Prop where
  check : ∀ (nw s r : Int) (ev : Value) (n : Nat) (nu : Nat → Int) (tw : Nat → Value) (ln : Nat → Nat) (t : Nat → Nat → Nat → Nat) (V : World), Wd V nw ev n nu tw ln t → I64 s → I64 r → Calls Try.prog 12 #[.agg (wC nw ev), .int .i64 s, .int .i64 r] V fun e w' => e = .returned (.int .i64 ((wChk (nw, esL n nu ln t) s r : Nat) : Int)) ∧ Below V.heap.size V w'
  len : ∀ (nw : Int) (ev : Value) (n : Nat) (nu : Nat → Int) (tw : Nat → Value) (ln : Nat → Nat) (t : Nat → Nat → Nat → Nat) (V : World), Wd V nw ev n nu tw ln t → Calls Try.prog 19 #[.agg (wC nw ev)] V fun e w' => e = .returned (.int .i64 (sW ln n)) ∧ Below V.heap.size V w'
  has : ∀ (nw : Int) (ev : Value) (n : Nat) (nu : Nat → Int) (tw : Nat → Value) (ln : Nat → Nat) (t : Nat → Nat → Nat → Nat) (f : Nat → Nat) (V : World), (∀ i, i < 16 → f i < 256) → Wd V nw ev n nu tw ln t → Calls Try.prog 13 #[.agg (wC nw ev), .agg (bA 16 f)] V fun e w' => e = .returned (.bool (decide (tv f 16 ∈ wAll (esL n nu ln t)))) ∧ Below V.heap.size V w'
  open_ : ∀ (nw ep s : Int) (ev : Value) (n : Nat) (nu : Nat → Int) (tw : Nat → Value) (ln : Nat → Nat) (t : Nat → Nat → Nat → Nat) (V : World), Wd V nw ev n nu tw ln t → I64 s → I64 ep → Calls Try.prog 11 #[.agg (wC nw ev), .int .i64 ep, .int .i64 s] V fun e w' => OpP V (wOpen (nw, esL n nu ln t) ep s) e w' ∧ Below V.heap.size V w'
  add : ∀ (nw ep r : Int) (ev : Value) (n : Nat) (nu : Nat → Int) (tw : Nat → Value) (ln : Nat → Nat) (t : Nat → Nat → Nat → Nat) (V : World) (v : Value) (m : Nat) (tg : Nat → Nat → Nat), Wd V nw ev n nu tw ln t → I64 ep → I64 r → Tgs V v m tg → m * 16 ≤ 140737488351232 → Calls Try.prog 6 #[.agg (wC nw ev), .int .i64 ep, v, .int .i64 r] V fun e w' => OpP V (wAdd (nw, esL n nu ln t) ep (tgL m tg) r) e w' ∧ Below V.heap.size V w'
theorem ropenW (nw ep s : Int) (ev : Value) (n : Nat) (nu : Nat → Int) (tw : Nat → Value) (ln : Nat → Nat) (t : Nat → Nat → Nat → Nat) (V : World) (h : Wd V nw ev n nu tw ln t) (hs : I64 s) (hep : I64 ep) : Calls Try.prog 14 #[.agg (wC nw ev), .int .i64 ep, .int .i64 s] V fun e w' => OpP V (wOpen (nw, esL n nu ln t) ep s) e w' ∧ Below V.heap.size V w' := ropen16 nw ep s ev n nu tw ln t V h.eps h.n63 h.ln43 h.num hs hep h.n32
theorem raddW (nw ep r : Int) (ev : Value) (n : Nat) (nu : Nat → Int) (tw : Nat → Value) (ln : Nat → Nat) (t : Nat → Nat → Nat → Nat) (V : World) (v : Value) (m : Nat) (tg : Nat → Nat → Nat) (h : Wd V nw ev n nu tw ln t) (hep : I64 ep) (hr : I64 r) (hT : Tgs V v m tg) (hm : m * 16 ≤ 140737488351232) : Calls Try.prog 15 #[.agg (wC nw ev), .int .i64 ep, v, .int .i64 r] V fun e w' => OpP V (wAdd (nw, esL n nu ln t) ep (tgL m tg) r) e w' ∧ Below V.heap.size V w' := radd16 nw ep r ev n nu tw ln t V h.eps h.n63 h.ln43 h.num hep hr v m tg hT hm
section
variable {o : Oper} {a : Act} {w : World}
theorem execEqE {x y : Operand} {p q : Nat} (ho : o.op = .binOp .eql 29 x y 29) (hx : a.eval x = .int .i64 (p : Int)) (hy : a.eval y = .int .i64 (q : Int)) : (execOp a.eval o).run Try.prog w = .ok (.value (.bool (decide (p = q)))) w := by
  unfold execOp
  simp only [ho, hx, hy]
  by_cases h : p = q
  · subst h
    simp [go_sem]
  · have h2 : ¬ (p : Int) = q := by omega
    simp [go_sem, h, h2]
theorem execNeE {x y : Operand} {p q : Nat} (ho : o.op = .binOp .neq 29 x y 29) (hx : a.eval x = .int .i64 (p : Int)) (hy : a.eval y = .int .i64 (q : Int)) : (execOp a.eval o).run Try.prog w = .ok (.value (.bool (decide (p ≠ q)))) w := by
  unfold execOp
  simp only [ho, hx, hy]
  by_cases h : p = q
  · subst h
    simp [go_sem]
  · have h2 : ¬ (p : Int) = q := by omega
    simp [go_sem, h, h2]
theorem execAl16 (ho : o.op = .alloc 36) : (execOp a.eval o).run Try.prog w = .ok (.value (.pointer (some ⟨w.heap.size, 0, none⟩))) (w.alloc (.cells (bA 16 fun _ => 0) 36)) := by
  have h := zero16
  unfold execOp
  simp only [ho]
  simp [go_sem, h]
theorem execSt16 {x y : Operand} {g : Nat} {f h : Nat → Nat} (ho : o.op = .store 36 x y) (hx : a.eval x = .pointer (some ⟨g, 0, none⟩)) (hy : a.eval y = .agg (bA 16 f)) (hg : w.heap[g]? = some (.cells (bA 16 h) 36)) : (execOp a.eval o).run Try.prog w = .ok .skip (w.setRow g (bA 16 f)) := by
  have q := execStMid (P := Try.prog) ho hx hy hg (by rw [bA_size, bA_size]; omega) (size16 f) (bA_one 16 f)
  rw [q]
  congr 2
theorem fill32w (f g : Nat → Nat) : Instr.fill (fun i => some (i * 16, 16)) ((Array.range (2 * 16)).map ((bA 16 fun _ => 0)[· % (bA 16 fun _ => 0).size]!)) [(0, .agg (bA 16 f)), (1, .agg (bA 16 g))] = some (bA 16 f ++ bA 16 g) := by
  kernel_rfl
theorem execBsT2 {x y : Operand} {f g : Nat → Nat} (ho : o.op = .buildSlice 25 2 #[(0, x), (1, y)]) (hx : a.eval x = .agg (bA 16 f)) (hy : a.eval y = .agg (bA 16 g)) : (execOp a.eval o).run Try.prog w = .ok (.value (.slice (some ⟨w.heap.size, 0, none⟩) 2 2)) (w.alloc (.cells (bA 16 f ++ bA 16 g) 36)) := by
  have hz : (zeroValue 36).run Try.prog w = .ok (.agg (bA 16 fun _ => 0)) w := zero16 w
  have hs : (sizeOf 36).run Try.prog w = .ok 16 w := by simp [go_sem]
  have hf := fill32w f g
  have e : (#[((0 : Nat), x), (1, y)] : Array (Nat × Operand)).map (fun (i, y) => (i, a.eval y)) = #[(0, .agg (bA 16 f)), (1, .agg (bA 16 g))] := by simp [hx, hy]
  have hr : (Instr.buildSlice 25 2 #[(0, .agg (bA 16 f)), (1, .agg (bA 16 g))]).run Try.prog w = .ok (.slice (some ⟨w.heap.size, 0, none⟩) 2 2) (w.alloc (.cells (bA 16 f ++ bA 16 g) 36)) := by
    simp only [Instr.buildSlice, Sem.run_bind, run_underlying Try.underlying25, Result.andThen_ok, hs]
    rw [if_neg (by decide), if_neg (by decide)]
    simp only [Sem.run_bind, Sem.run_pure, Result.andThen_ok, hz, Value.cells, hf]
    simp [newRow]
  unfold execOp
  simp only [ho, e, Sem.run_bind, hr, Result.andThen_ok, Sem.run_pure]
theorem execBdEpC {c y : Operand} {z : Int} {v : Value} (ho : o.op = .build 47 #[(0, c), (1, y)]) (hc : a.eval c = .int .i64 z) (hy : a.eval y = v) (hv : ∃ g n c, v = .slice g n c) : (execOp a.eval o).run Try.prog w = .ok (.value (.agg (epC z v))) w := execBdEp ho hc hy hv
theorem execBdW2 {c y : Operand} {z : Int} {v : Value} (ho : o.op = .build 24 #[(0, c), (1, y)]) (hc : a.eval c = .int .i64 z) (hy : a.eval y = v) (hv : ∃ g n c, v = .slice g n c) : (execOp a.eval o).run Try.prog w = .ok (.value (.agg (wC z v))) w := by
  obtain ⟨g, n, c, rfl⟩ := hv
  unfold execOp
  simp only [ho, List.map_toArray, List.map_cons, List.map_nil, hc, hy]
  simp [go_sem, wC]
theorem execBsE2 {x y : Operand} {p q : Int} {u v : Value} (ho : o.op = .buildSlice 22 2 #[(0, x), (1, y)]) (hx : a.eval x = .agg (epC p u)) (hy : a.eval y = .agg (epC q v)) (hu : ∃ g n c, u = .slice g n c) (hv : ∃ g n c, v = .slice g n c) : (execOp a.eval o).run Try.prog w = .ok (.value (.slice (some ⟨w.heap.size, 0, none⟩) 2 2)) (w.alloc (.cells #[.int .i64 p, u, .int .i64 q, v] 47)) := by
  obtain ⟨g, n, c, rfl⟩ := hu
  obtain ⟨g2, n2, c2, rfl⟩ := hv
  unfold execOp
  simp only [ho, List.map_toArray, List.map_cons, List.map_nil, hx, hy]
  simp [go_sem, epC]
end
theorem two_tgs {W : World} {b : Nat} {f g : Nat → Nat} (hb : W.heap[b]? = some (.cells (bA 16 f ++ bA 16 g) 36)) (hf : ∀ i, i < 16 → f i < 256) (hg : ∀ i, i < 16 → g i < 256) : Tgs W (.slice (some ⟨b, 0, none⟩) 2 2) 2 fun k => if k = 0 then f else g :=
  ⟨⟨_, _, rfl, Nat.le_refl _, by omega, fun _ => ⟨b, 0, rfl, (Array.getElem?_eq_some_iff.1 hb).1, fun j hj i hi => by
    rw [cell_of_row _ _ _ _ _ _ hb]
    match j, hj with
    | 0, _ => rw [show 0 + 0 * 16 + i = i by omega, Array.getElem?_append_left (by rw [bA_size]; exact hi), if_pos rfl]; exact bA_at 16 f hi
    | 1, _ => rw [show 0 + 1 * 16 + i = 16 + i by omega, Array.getElem?_append_right (by rw [bA_size]; omega), bA_size, show 16 + i - 16 = i by omega, if_neg (by decide)]; exact bA_at 16 g hi
    | j + 2, h => omega⟩⟩, fun j hj i hi => by
    match j, hj with
    | 0, _ => exact hf i hi
    | 1, _ => exact hg i hi
    | j + 2, h => omega, fun l c e => by cases e⟩
theorem one_tgsB {W : World} {b : Nat} {f : Nat → Nat} (hb : W.heap[b]? = some (.cells (bA 16 f) 36)) (hf : ∀ i, i < 16 → f i < 256) : Tgs W (.slice (some ⟨b, 0, none⟩) 1 1) 1 fun _ => f :=
  ⟨⟨_, _, rfl, Nat.le_refl _, by omega, fun _ => ⟨b, 0, rfl, (Array.getElem?_eq_some_iff.1 hb).1, fun j hj i hi => by
    obtain rfl : j = 0 := by omega
    rw [show 0 + 0 * 16 + i = i by omega]
    exact ld16 hb hi⟩⟩, fun j _ => hf, fun l c e => by cases e⟩
/-- The window of the document's examples. -/
def sN (j : Nat) : Int := if j = 0 then 4 else 5
def sL (j : Nat) : Nat := if j = 0 then 2 else 1
def sT (j k : Nat) (_i : Nat) : Nat := if j = 0 then (if k = 0 then 97 else 99) else 98
theorem two_eps {W : World} {g : Nat} {u v : Value} (hg : W.heap[g]? = some (.cells #[.int .i64 4, u, .int .i64 5, v] 47)) (hu : Tgs W u 2 (sT 0)) (hv : Tgs W v 1 (sT 1)) : Eps W (.slice (some ⟨g, 0, none⟩) 2 2) 2 sN (fun j => if j = 0 then u else v) sL sT :=
  ⟨⟨_, _, rfl, Nat.le_refl _, by omega, fun _ => ⟨g, 0, rfl, (Array.getElem?_eq_some_iff.1 hg).1, fun j hj => by
    rw [cell_of_row _ _ _ _ _ _ hg, cell_of_row _ _ _ _ _ _ hg]
    match j, hj with
    | 0, _ => exact ⟨rfl, rfl⟩
    | 1, _ => exact ⟨rfl, rfl⟩
    | j + 2, h => omega⟩⟩, fun j hj => by
    match j, hj with
    | 0, _ => exact hu
    | 1, _ => exact hv
    | j + 2, h => omega, fun j hj => by
    match j, hj with
    | 0, _ => decide
    | 1, _ => decide
    | j + 2, h => omega⟩
theorem sm_wd {W : World} {ev : Value} {tw : Nat → Value} (h : Eps W ev 2 sN tw sL sT) : Wd W 5 ev 2 sN tw sL sT := ⟨h, by omega, fun j _ => by unfold sL; split <;> omega, by decide⟩
theorem tgs_cg {W : World} {v : Value} {n : Nat} {t s : Nat → Nat → Nat} (h : Tgs W v n t) (e : ∀ j, j < n → ∀ i, i < 16 → t j i = s j i) : Tgs W v n s := by
  obtain ⟨⟨a, c, q, h1, h2, h3⟩, hp, hz⟩ := h
  refine ⟨⟨a, c, q, h1, h2, fun h0 => ?_⟩, fun j hj i hi => by rw [← e j hj i hi]; exact hp j hj i hi, hz⟩
  obtain ⟨b, o, e1, e2, e3⟩ := h3 h0
  exact ⟨b, o, e1, e2, fun j hj i hi => by rw [e3 j hj i hi, e j hj i hi]⟩
theorem sm_a {W : World} {b : Nat} (hb : W.heap[b]? = some (.cells (bA 16 (fun _ => 97) ++ bA 16 (fun _ => 99)) 36)) : Tgs W (.slice (some ⟨b, 0, none⟩) 2 2) 2 (sT 0) := tgs_cg (two_tgs hb (fun _ _ => by decide) (fun _ _ => by decide)) (fun j hj i _ => by
  match j, hj with
  | 0, _ => rfl
  | 1, _ => rfl
  | j + 2, h => omega)
theorem sm_b {W : World} {b : Nat} (hb : W.heap[b]? = some (.cells (bA 16 (fun _ => 98)) 36)) : Tgs W (.slice (some ⟨b, 0, none⟩) 1 1) 1 (sT 1) := tgs_cg (one_tgsB hb (fun _ _ => by decide)) (fun j hj i _ => by
  match j, hj with
  | 0, _ => rfl
  | j + 1, h => omega)
set_option maxRecDepth 100000 in
set_option maxHeartbeats 4000000 in
/-- The laws' tag. -/
theorem tag16 (c : Nat) (V : World) (_hc : c < 256) :
    Calls Try.prog 10 #[.int .u8 ((c : Nat) : Int)] V fun e w' => e = .returned (.agg (bA 16 (fun _ => c))) ∧ Below V.heap.size V w' := by
  go_enter Try.func10, Try.ntmps10
  refine wo_ 13 [(0, .int .u8 ((c : Nat) : Int))] ?_
  rintro a A ⟨t0, -⟩
  have BW : Below V.heap.size V V := Below.refl _ _
  have BB := BW
  refine wp_seq ?_
  obtain ⟨g2, egg2⟩ : ∃ z_ : Nat, V.heap.size = z_ := ⟨_, rfl⟩
  refine wi_ A (h1_ t0) (rs_ 0 (fun a ee => ?_))
  refine stepV rfl rfl (execAl16 rfl) ⟨.pointer (some ⟨g2, 0, none⟩), ⟨_, rfl, by subst egg2; rfl⟩, fun X0 hX => ?_⟩
  have bQ : Below V.heap.size V X0 := by subst hX egg2; exact (belNew V _)
  have Fg2 : (X0.heap[g2]? = some (.cells (bA 16 (fun _ => 0)) 36)) := by subst hX egg2; exact heapNew V _
  have FGg2 : (V.heap.size ≤ g2) := by subst hX egg2; exact (BB).size
  replace BB := BB.trans (bQ.mono BB.size)
  clear bQ hX egg2 ee a
  refine rf_ [(2, .pointer (some ⟨g2, 0, none⟩))] (h1_ t0) ?_
  rintro a A ⟨t2, -⟩ ⟨t0, -⟩
  refine wp_seq ?_
  obtain ⟨g3, egg3⟩ : ∃ z_ : Nat, X0.heap.size = z_ := ⟨_, rfl⟩
  refine wi_ A (h2_ t0 t2) (rs_ 0 (fun a ee => ?_))
  refine stepV rfl rfl (execAl16 rfl) ⟨.pointer (some ⟨g3, 0, none⟩), ⟨_, rfl, by subst egg3; rfl⟩, fun X1 hX => ?_⟩
  have bQ : Below X0.heap.size X0 X1 := by subst hX egg3; exact (belNew X0 _)
  have Fg3 : (X1.heap[g3]? = some (.cells (bA 16 (fun _ => 0)) 36)) := by subst hX egg3; exact heapNew X0 _
  have FGg3 : (V.heap.size ≤ g3) := by subst hX egg3; exact (BB).size
  have FN : (g2 ≠ g3) := by subst hX egg3; exact ne16 Fg2
  replace Fg2 := (on9 Fg2 bQ)
  replace BB := BB.trans (bQ.mono BB.size)
  clear bQ hX egg3 ee a
  refine rf_ [(3, .pointer (some ⟨g3, 0, none⟩))] (h2_ t0 t2) ?_
  rintro a A ⟨t3, -⟩ ⟨t0, t2, -⟩
  refine wp_seq ?_
  refine wp_seq ?_
  refine wi_ A (h3_ t0 t2 t3) (rf_ [(4, .int .i64 ((0 : Nat) : Int))] (h3_ t0 t2 t3) ?_)
  rintro a A ⟨t4, -⟩ ⟨t0, t2, t3, -⟩
  have F3 : (X1.heap[g3]? = some (.cells (bA 16 (uptoC (fun _ => c) 0)) 36)) := by rw [Fg3]; exact congrArg some (congrArg (fun z => Obj.cells z 36) (bA_congr fun i _ => (if_neg (Nat.not_lt_zero i)).symm))
  have F2 := Fg2
  clear Fg3 Fg2
  refine wp_block ?_
  refine wp_loop (fun a W => ∃ (i : Nat), i ≤ 16 ∧ (a.tmps.size = 13 ∧ a.defers = []) ∧ a.eval (.tmp 0) = .int .u8 ((c : Nat) : Int) ∧ a.eval (.tmp 2) = .pointer (some ⟨g2, 0, none⟩) ∧ a.eval (.tmp 3) = .pointer (some ⟨g3, 0, none⟩) ∧ a.eval (.tmp 4) = .int .i64 ((i : Nat) : Int) ∧ Below V.heap.size V W ∧ (W.heap[g3]? = some (.cells (bA 16 (uptoC (fun _ => c) i)) 36)) ∧ (W.heap[g2]? = some (.cells (bA 16 (fun _ => 0)) 36))) (fun a _ => 16 - (intOf (a.eval (.tmp 4))).toNat) ⟨0, Nat.zero_le _, A, t0, t2, t3, t4, BB, F3, F2⟩ ?_
  clear A t0 t2 t3 t4 BB F3 F2 a
  rintro a XL3 ⟨i, hi, A, t0, t2, t3, t4, BB, F3, F2⟩
  have esi := t4
  refine wp_seq ?_
  refine wp_seq ?_
  refine wi_ A (h4_ t0 t2 t3 t4) (rv_ 1 (.bool (decide (i < 16))) (fun a ee => execLtW (p := i) (q := 16) rfl (ee _) rfl) (rf_ [(6, .bool (decide (i < 16)))] (h4_ t0 t2 t3 t4) ?_))
  rintro a A ⟨t6, -⟩ ⟨t0, t2, t3, t4, -⟩
  by_cases lti : i < 16
  · rw [decide_eq_true lti] at t6
    refine wp_cond_true t6 ?_
    refine wp_skip ?_
    clear t6
    refine wp_seq ?_
    refine wp_block ?_
    refine wi_ A (h4_ t0 t2 t3 t4) (rv_ 2 (.pointer (some ⟨g3, i, none⟩)) (fun a ee => execIdxT (k := i) rfl (ee _) (ee _) lti) (rs_ 3 (fun a ee => ?_)))
    refine stepS rfl rfl (execStB rfl (ee _) (ee _) (cellN F3 lti) (frozen4 F3)) ⟨_, ⟨_, rfl, rfl⟩, fun X5 hX => ?_⟩
    obtain ⟨BB, F2, F3b⟩ : Below V.heap.size V X5 ∧ (X5.heap[g2]? = some (.cells (bA 16 (fun _ => 0)) 36)) ∧ (X5.heap[g3]? = some (.cells (bA 16 (uptoC (fun _ => c) (i + 1))) 36)) := by subst hX; exact ⟨(BB).setCell FGg3 _, (by rw [heap4o _ F3 FN]; exact F2), (by rw [heap4 _ F3, bA_set, updN_upto (fun _ => c)])⟩
    clear F3 hX ee a
    refine rf_ [] (h4_ t0 t2 t3 t4) ?_
    rintro a A - ⟨t0, t2, t3, t4, -⟩
    refine wi_ A (h4_ t0 t2 t3 t4) (rv_ 1 (.int .i64 ((i + 1 : Nat) : Int)) (fun a ee => execAd8 (p := i) (q := 1) rfl (ee _) rfl (by omega)) (rf_ [(4, .int .i64 ((i + 1 : Nat) : Int))] (h3_ t0 t2 t3) ?_))
    rintro a A ⟨t4, -⟩ ⟨t0, t2, t3, -⟩
    exact ⟨⟨i + 1, lti, A, t0, t2, t3, t4, BB, F3b, F2⟩, by show 16 - (intOf (a.eval (.tmp 4))).toNat < 16 - (intOf (Act.eval _ (.tmp 4))).toNat; rw [t4, esi]; show 16 - (i + 1) < 16 - i; omega⟩
  · rw [decide_eq_false lti] at t6
    refine wp_cond_false t6 ?_
    refine wp_exit ?_
    first | with_reducible refine exit_in ?_ | with_reducible refine exit_then (exit_in ?_) | with_reducible refine exit_then (exit_then (exit_in ?_)) | refine exit_in ?_ | refine exit_then (exit_in ?_) | refine exit_then (exit_then (exit_in ?_))
    clear t6 esi
    obtain rfl : i = 16 := by omega
    have F3c : (XL3.heap[g3]? = some (.cells (bA 16 (fun _ => c)) 36)) := by rw [F3]; exact congrArg some (congrArg (fun z => Obj.cells z 36) (bA_congr fun k hk => if_pos hk))
    clear F3 t0 t4
    refine wp_seq ?_
    refine wi_ A (h2_ t2 t3) (rv_ 0 (.agg (bA 16 (fun _ => c))) (fun a ee => execLdT (f := fun _ => c) rfl (ee _) (fun j_ hj_ => at16 F3c hj_)) (rs_ 1 (fun a ee => ?_)))
    refine stepS rfl rfl (execSt16 rfl (ee _) (ee _) F2) ⟨_, ⟨_, rfl, rfl⟩, fun X6 hX => ?_⟩
    obtain ⟨BB, Fr⟩ : Below V.heap.size V X6 ∧ (X6.heap[g2]? = some (.cells (bA 16 (fun _ => c)) 36)) := by subst hX; exact ⟨below4 BB FGg2 _, setRow_heap _ _ _ _ _ _ F2⟩
    clear F3c F2 hX ee a
    refine rf_ [] (h1_ t2) ?_
    rintro a A - ⟨t2, -⟩
    refine wp_ret ?_
    refine bodyPost_ret (results_cell_row Try.results10 _ _ g2 36 _ (0, 0) _ t2 Fr Try.underlying36 rfl (size16 _)) A.2 ⟨rfl, BB⟩
set_option maxRecDepth 100000 in
set_option maxHeartbeats 4000000 in
/-- The laws' some. -/
theorem some16 (V : World) :
    Calls Try.prog 18 #[] V fun e w' => (∃ ev tw, e = .returned (.agg (wC 5 ev)) ∧ Eps w' ev 2 sN tw sL sT) ∧ Below V.heap.size V w' := by
  go_enter Try.func18, Try.ntmps18
  refine wo_ 10 [] ?_
  rintro a A -
  have BW : Below V.heap.size V V := Below.refl _ _
  have BB := BW
  refine wp_seq ?_
  obtain ⟨g0, egg0⟩ : ∃ z_ : Nat, V.heap.size = z_ := ⟨_, rfl⟩
  refine wi_ A h0_ (rs_ 0 (fun a ee => ?_))
  refine stepV rfl rfl (execAllW rfl) ⟨.pointer (some ⟨g0, 0, none⟩), ⟨_, rfl, by subst egg0; rfl⟩, fun X0 hX => ?_⟩
  have bQ : Below V.heap.size V X0 := by subst hX egg0; exact (belNew V _)
  have Fg0 : (X0.heap[g0]? = some (.cells (wC 0 (.slice none 0 0)) 24)) := by subst hX egg0; exact heapNew V _
  have FGg0 : (V.heap.size ≤ g0) := by subst hX egg0; exact (BB).size
  replace BB := BB.trans (bQ.mono BB.size)
  clear bQ hX egg0 ee a
  refine rg_ [(0, .pointer (some ⟨g0, 0, none⟩))] ?_
  rintro a A ⟨t0, -⟩
  refine wp_seq ?_
  refine wi_ A (h1_ t0) (rc_ 0 (tag16 97 X0 (by decide)) (cb_ fun X1_1 bQ => ?_))
  replace Fg0 := (on9 Fg0 bQ)
  replace BB := BB.trans (bQ.mono BB.size)
  clear bQ
  refine rc_ 1 (tag16 99 X1_1 (by decide)) (cb_ fun X1_2 bQ => ?_)
  replace Fg0 := (on9 Fg0 bQ)
  replace BB := BB.trans (bQ.mono BB.size)
  clear bQ
  obtain ⟨g3, egg3⟩ : ∃ z_ : Nat, X1_2.heap.size = z_ := ⟨_, rfl⟩
  refine rs_ 2 (fun a ee => ?_)
  refine stepV rfl rfl (execBsT2 rfl (ee _) (ee _)) ⟨.slice (some ⟨g3, 0, none⟩) 2 2, ⟨_, rfl, by subst egg3; rfl⟩, fun X1_3 hX => ?_⟩
  have bQ : Below X1_2.heap.size X1_2 X1_3 := by subst hX egg3; exact (belNew X1_2 _)
  have FA : (X1_3.heap[g3]? = some (.cells (bA 16 (fun _ => 97) ++ bA 16 (fun _ => 99)) 36)) := by subst hX egg3; exact heapNew X1_2 _
  replace Fg0 := (on9 Fg0 bQ)
  replace BB := BB.trans (bQ.mono BB.size)
  clear bQ hX egg3 ee a
  refine rv_ 3 (.agg (epC 4 (.slice (some ⟨g3, 0, none⟩) 2 2))) (fun a ee => execBdEpC rfl rfl (ee _) ⟨_, _, _, rfl⟩) (rc_ 4 (tag16 98 X1_3 (by decide)) (cb_ fun X1_4 bQ => ?_))
  replace Fg0 := (on9 Fg0 bQ)
  replace FA := (on9 FA bQ)
  replace BB := BB.trans (bQ.mono BB.size)
  clear bQ
  obtain ⟨g6, egg6⟩ : ∃ z_ : Nat, X1_4.heap.size = z_ := ⟨_, rfl⟩
  refine rs_ 5 (fun a ee => ?_)
  refine stepV rfl rfl (execBsT rfl (ee _)) ⟨.slice (some ⟨g6, 0, none⟩) 1 1, ⟨_, rfl, by subst egg6; rfl⟩, fun X1_5 hX => ?_⟩
  have bQ : Below X1_4.heap.size X1_4 X1_5 := by subst hX egg6; exact (belNew X1_4 _)
  have FB : (X1_5.heap[g6]? = some (.cells (bA 16 (fun _ => 98)) 36)) := by subst hX egg6; exact heapNew X1_4 _
  replace Fg0 := (on9 Fg0 bQ)
  replace FA := (on9 FA bQ)
  replace BB := BB.trans (bQ.mono BB.size)
  clear bQ hX egg6 ee a
  obtain ⟨g8, egg8⟩ : ∃ z_ : Nat, X1_5.heap.size = z_ := ⟨_, rfl⟩
  refine rv_ 6 (.agg (epC 5 (.slice (some ⟨g6, 0, none⟩) 1 1))) (fun a ee => execBdEpC rfl rfl (ee _) ⟨_, _, _, rfl⟩) (rs_ 7 (fun a ee => ?_))
  refine stepV rfl rfl (execBsE2 rfl (ee _) (ee _) ⟨_, _, _, rfl⟩ ⟨_, _, _, rfl⟩) ⟨.slice (some ⟨g8, 0, none⟩) 2 2, ⟨_, rfl, by subst egg8; rfl⟩, fun X1_6 hX => ?_⟩
  have bQ : Below X1_5.heap.size X1_5 X1_6 := by subst hX egg8; exact (belNew X1_5 _)
  have FE : (X1_6.heap[g8]? = some (.cells #[.int .i64 4, .slice (some ⟨g3, 0, none⟩) 2 2, .int .i64 5, .slice (some ⟨g6, 0, none⟩) 1 1] 47)) := by subst hX egg8; exact heapNew X1_5 _
  replace Fg0 := (on9 Fg0 bQ)
  replace FA := (on9 FA bQ)
  replace FB := (on9 FB bQ)
  replace BB := BB.trans (bQ.mono BB.size)
  clear bQ hX egg8 ee a
  refine rv_ 8 (.agg (wC 5 (.slice (some ⟨g8, 0, none⟩) 2 2))) (fun a ee => execBdW2 rfl rfl (ee _) ⟨_, _, _, rfl⟩) (rs_ 9 (fun a ee => ?_))
  refine stepS rfl rfl (execStWn rfl (ee _) (ee _) Fg0 rfl) ⟨_, ⟨_, rfl, rfl⟩, fun X1 hX => ?_⟩
  obtain ⟨BB, FA, FB, FE, Fr⟩ : Below V.heap.size V X1 ∧ (X1.heap[g3]? = some (.cells (bA 16 (fun _ => 97) ++ bA 16 (fun _ => 99)) 36)) ∧ (X1.heap[g6]? = some (.cells (bA 16 (fun _ => 98)) 36)) ∧ (X1.heap[g8]? = some (.cells #[.int .i64 4, .slice (some ⟨g3, 0, none⟩) 2 2, .int .i64 5, .slice (some ⟨g6, 0, none⟩) 1 1] 47)) ∧ (X1.heap[g0]? = some (.cells (wC 5 (.slice (some ⟨g8, 0, none⟩) 2 2)) 24)) := by subst hX; exact ⟨below4 BB FGg0 _, (by rw [setRow_other _ _ _ _ (ne_type Fg0 FA (by decide))]; exact FA), (by rw [setRow_other _ _ _ _ (ne_type Fg0 FB (by decide))]; exact FB), (by rw [setRow_other _ _ _ _ (ne_type Fg0 FE (by decide))]; exact FE), setRow_heap _ _ _ _ _ _ Fg0⟩
  clear Fg0 hX ee a
  refine rf_ [] (h1_ t0) ?_
  rintro a A - ⟨t0, -⟩
  refine wp_ret ?_
  refine bodyPost_ret (results_cell_row Try.results18 _ _ g0 24 _ (0, 0) _ t0 Fr Try.underlying24 rfl (sizeW _ _)) A.2 ⟨⟨_, _, rfl, two_eps FE (sm_a FA) (sm_b FB)⟩, BB⟩
end Go.Proofs.Ytijibdapooalcab.Win
