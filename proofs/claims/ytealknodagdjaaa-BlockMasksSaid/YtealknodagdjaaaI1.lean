import Derived.Test.YtealknodagdjaaaI0
namespace Go.Proofs.Ytealknodagdjaaa.Aes
open Go.RowKit Gf8

/-- The bytes 0, step, 2 step, .. -/
def countF (s : Nat) : Nat → Nat := fun i => i * s % 256
theorem countF_by (s : Nat) : By (countF s) := fun _ _ => Nat.mod_lt _ (by omega)

set_option maxRecDepth 20000 in
set_option maxHeartbeats 400000 in
theorem counting_any (s : Nat) (V : World) :
    Calls Try.prog 10 #[.int .u8 s] V fun e w' => e = .returned (.agg (bA 16 (countF s))) ∧ Below V.heap.size V w' := by
  have z := zero16
  go_enter Try.func10, Try.ntmps10
  go_wp2_with fail
  clear z
  have g0 := heapNew (V.alloc (.cells (bA 16 fun _ => 0) 23)) (.cells (bA 16 fun _ => 0) 23)
  have hsz : (V.alloc (.cells (bA 16 fun _ => 0) 23)).heap.size = V.heap.size + 1 := by simp
  rw [hsz] at g0
  have g1 := (heapOld (V.alloc (.cells (bA 16 fun _ => 0) 23)) (.cells (bA 16 fun _ => 0) 23) (k := V.heap.size) (by omega)).trans (heapNew V (.cells (bA 16 fun _ => 0) 23))
  have T0 : Hid (_ ∧ _) := ⟨g1, g0⟩
  clear g0 g1 hsz
  go_loopw [4] (fun x W => ∃ k : Nat, k ≤ 16 ∧ x = .int .i64 k ∧ W.heap[V.heap.size]? = some (.cells (bA 16 fun _ => 0) 23) ∧ W.heap[V.heap.size + 1]? = some (.cells (bA 16 (uptoC (countF s) k)) 23) ∧ Below V.heap.size V W) (fun x _ => 16 - (intOf x).toNat)
  case atStart => exact ⟨0, by omega, rfl, T0.out.1, T0.out.2, ((Below.refl _ _).alloc (Nat.le_refl _) _).alloc (by simp) _⟩
  case round =>
    obtain ⟨k, hk, rfl, g1, g2, bel⟩ := hrel
    clear T0
    have G1 : Hid (_) := g1
    have G2 : Hid (_) := g2
    have BL : Hid (Below V.heap.size V wr) := bel
    clear g1 g2 bel
    by_cases hlt : k < 16
    · have k1 : (k : Int) < 16 := by omega
      have k2 : (k : Int) % 256 = k := by omega
      obtain ⟨x, hx⟩ : ∃ x, countF s k = x := ⟨_, rfl⟩
      have e1 : (k : Int) * s % 256 = x := by rw [← hx]; unfold countF; simp
      have c1 : wr.cell? ⟨V.heap.size + 1, k, none⟩ = some (.int .u8 (uptoC (countF s) k k)) := cellN G2.out hlt
      have c2 : wr.frozen? ⟨V.heap.size + 1, k, none⟩ = false := frozen4 G2.out
      have HX : Hid (countF s k = x) := hx
      clear hx
      go_wp2
      go_roundw
      case rel =>
        refine ⟨k + 1, by omega, by go_num, ?_, ?_, BL.out.setCell (by simp) _⟩
        · rw [heap4o _ G2.out (by omega)]; exact G1.out
        · rw [heap4 _ G2.out, bA_set, ← HX.out, updN_upto]
      case measure => simp [intOf]; omega
    · have ek : k = 16 := by omega
      subst ek
      have g3 : wr.heap[V.heap.size + 1]? = some (.cells (bA 16 (countF s)) 23) := by
        have h := G2.out
        rw [bA_congr (g := countF s) (fun j hj => by unfold uptoC; rw [if_pos hj])] at h
        exact h
      go_wp2_with (first
        | (refine atLoad 23 (.tmp 3) rfl ?_; go_must (refine wpList_load_row rfl 23 (.tmp 3) rfl (V.heap.size + 1) rfl 23 _ (0, 0) _ g3 Try.underlying23 rfl (size16 _) ?_; simp only [Act.put, List.setIfInBounds_toArray, List.set_cons_succ, List.set_cons_zero]))
        | (refine atStore 23 (.tmp 2) (.tmp 15) rfl ?_; go_must (refine wpList_store_row rfl 23 (.tmp 2) (.tmp 15) rfl V.heap.size _ rfl rfl 23 _ G1.out (size16 _) rfl (bA_one _ _) ?_)))
      refine bodyPost_ret (v := .agg (bA 16 (countF s))) (results_cell_row Try.results10 _ _ V.heap.size 23 _ (0, 0) _ rfl (setRow_heap _ _ _ _ _ _ G1.out) Try.underlying23 rfl (size16 _)) rfl ⟨rfl, ?_⟩
      exact below4 BL.out (by omega) _

/-- What is carried into the place m. -/
def carry (n a m : Nat) : Nat := (n % 256 ^ m + a) / 256 ^ m
theorem carry_lt (n a m : Nat) : carry n a m ≤ a + 1 := by
  unfold carry
  have p : 0 < 256 ^ m := Nat.pow_pos (by omega)
  have h := Nat.mod_lt n p
  have : (n % 256 ^ m + a) / 256 ^ m ≤ (256 ^ m + a) / 256 ^ m := Nat.div_le_div_right (by omega)
  have e : (256 ^ m + a) / 256 ^ m = a / 256 ^ m + 1 := by rw [Nat.add_comm, Nat.add_div_right _ p]
  have := Nat.div_le_self a (256 ^ m)
  omega
theorem sum_div (n a m : Nat) : (n + a) / 256 ^ m = n / 256 ^ m + carry n a m := by
  unfold carry
  have p : 0 < 256 ^ m := Nat.pow_pos (by omega)
  have e : n + a = (n % 256 ^ m + a) + 256 ^ m * (n / 256 ^ m) := by have := Nat.mod_add_div n (256 ^ m); omega
  have h := Nat.add_mul_div_left (n % 256 ^ m + a) (n / 256 ^ m) p
  rw [← e] at h
  omega
theorem carry_byte (n a m : Nat) : (carry n a m + n / 256 ^ m % 256) % 256 = (n + a) / 256 ^ m % 256 := by
  rw [sum_div]; omega
theorem carry_next (n a m : Nat) : (carry n a m + n / 256 ^ m % 256) / 256 = carry n a (m + 1) := by
  have h1 := sum_div n a m
  have h2 := sum_div n a (m + 1)
  have e1 : (n + a) / 256 ^ (m + 1) = (n + a) / 256 ^ m / 256 := by rw [Nat.pow_succ, Nat.div_div_eq_div_mul]
  have e2 : n / 256 ^ (m + 1) = n / 256 ^ m / 256 := by rw [Nat.pow_succ, Nat.div_div_eq_div_mul]
  rw [e1, e2, h1] at h2
  omega
theorem carry_zero (n a : Nat) : carry n a 0 = a := by simp [carry, Nat.mod_one]
/-- The sum, its last m bytes laid. -/
def upF (n a m : Nat) : Nat → Nat := fun j => if 16 ≤ j + m then be (n + a) j else be n j
theorem upF_step (n a : Nat) {m : Nat} (h : m < 16) : updN (upF n a m) (15 - m) (be (n + a) (15 - m)) = upF n a (m + 1) := by
  funext j
  unfold updN upF
  by_cases e : j = 15 - m
  · subst e; rw [if_pos rfl, if_pos (by omega)]
  · rw [if_neg e]
    by_cases h2 : 16 ≤ j + m
    · rw [if_pos h2, if_pos (by omega)]
    · rw [if_neg h2, if_neg (by omega)]

set_option maxRecDepth 20000 in
set_option maxHeartbeats 400000 in
theorem up_any (n a : Nat) (V : World) (ha : a < 1000000) :
    Calls Try.prog 24 #[.agg (bA 16 (be n)), .int .i64 a] V fun e w' => e = .returned (.agg (bA 16 (be (n + a)))) ∧ Below V.heap.size V w' := by
  have HA : Hid (a < 1000000) := ha
  clear ha
  have z := zero16
  go_enter Try.func24, Try.ntmps24
  go_wp2_with fail
  clear z
  have g0 := heapNew (V.alloc (.cells (bA 16 (be n)) 23)) (.cells (bA 16 fun _ => 0) 23)
  have hsz : (V.alloc (.cells (bA 16 (be n)) 23)).heap.size = V.heap.size + 1 := by simp
  rw [hsz] at g0
  have g1 := (heapOld (V.alloc (.cells (bA 16 (be n)) 23)) (.cells (bA 16 fun _ => 0) 23) (k := V.heap.size) (by omega)).trans (heapNew V (.cells (bA 16 (be n)) 23))
  rw [bA_congr (f := be n) (g := upF n a 0) (fun j hj => by unfold upF; rw [if_neg (by omega)])] at g1
  rw [bA_congr (f := be n) (g := upF n a 0) (fun j hj => by unfold upF; rw [if_neg (by omega)])] at g0 ⊢
  have T0 : Hid (_ ∧ _) := ⟨g1, g0⟩
  clear g0 g1 hsz
  go_loopw [1, 5] (fun c x W => ∃ m : Nat, m ≤ 16 ∧ c = .int .i64 (carry n a m : Nat) ∧ x = .int .i64 (15 - (m : Int)) ∧ W.heap[V.heap.size]? = some (.cells (bA 16 (upF n a m)) 23) ∧ W.heap[V.heap.size + 1]? = some (.cells (bA 16 fun _ => 0) 23) ∧ Below V.heap.size V W) (fun _ x _ => (intOf x + 1).toNat)
  case atStart => exact ⟨0, by omega, by rw [carry_zero], rfl, T0.out.1, T0.out.2, ((Below.refl _ _).alloc (Nat.le_refl _) _).alloc (by simp) _⟩
  case round =>
    obtain ⟨m, hm, rfl, rfl, g1, g2, bel⟩ := hrel
    clear T0
    have G1 : Hid (_) := g1
    have G2 : Hid (_) := g2
    have BL : Hid (Below V.heap.size V wr) := bel
    clear g1 g2 bel
    by_cases hlt : m < 16
    · obtain ⟨i, hi⟩ : ∃ i, 15 - m = i := ⟨_, rfl⟩
      have e0 : 15 - (m : Int) = (i : Int) := by omega
      have i1 : (i : Int) ≥ 0 := by omega
      have i2 : (i : Int) < 16 := by omega
      have hi16 : i < 16 := by omega
      obtain ⟨c, hc⟩ : ∃ c, carry n a m = c := ⟨_, rfl⟩
      have lc : c ≤ 1000000 := by rw [← hc]; have := carry_lt n a m; have := HA.out; omega
      obtain ⟨y, hy⟩ : ∃ y, be n i = y := ⟨_, rfl⟩
      have vy : y < 256 := by rw [← hy]; exact be_by _ i hi16
      obtain ⟨s, hs⟩ : ∃ s, c + y = s := ⟨_, rfl⟩
      have es : (c : Int) + y = s := by omega
      have ls : (s : Int) < 2000000 := by omega
      obtain ⟨x, hx⟩ : ∃ x, s % 256 = x := ⟨_, rfl⟩
      obtain ⟨d, hd⟩ : ∃ d, s / 256 = d := ⟨_, rfl⟩
      have ed : (s : Int) / 256 = d := by omega
      have ea : bits .and .i64 (s : Int) 255 = x := by
        rw [show (255 : Int) = ((255 : Nat) : Int) from rfl, and_i64 (by omega) (by omega), show (255 : Nat) = 2 ^ 8 - 1 from rfl, Nat.and_two_pow_sub_one_eq_mod, ← hx]
      have ex : (x : Int) % 256 = x := by omega
      have e15 : 15 - i = m := by omega
      have hyd : n / 256 ^ m % 256 = y := by rw [← hy]; unfold be; rw [e15]
      have HX : Hid (be (n + a) i = x) := by
        show be (n + a) i = x
        unfold be
        rw [e15, ← carry_byte, hc, hyd, hs, hx]
      have HD : Hid (carry n a (m + 1) = d) := by
        show carry n a (m + 1) = d
        rw [← carry_next, hc, hyd, hs, hd]
      have c1 : wr.cell? ⟨V.heap.size, i, none⟩ = some (.int .u8 y) := by
        rw [cellN G1.out hi16]
        unfold upF
        rw [if_neg (by omega), hy]
      have c2 : wr.frozen? ⟨V.heap.size, i, none⟩ = false := frozen4 G1.out
      have R1 : Hid ((wr.setCell ⟨V.heap.size, i, none⟩ (.int .u8 x)).heap[V.heap.size]? = some (.cells (bA 16 (upF n a (m + 1))) 23)) := by
        show (wr.setCell ⟨V.heap.size, i, none⟩ (.int .u8 x)).heap[V.heap.size]? = _
        rw [heap4 _ G1.out, bA_set, ← HX.out, ← hi, upF_step n a hlt]
      have R2 : Hid ((wr.setCell ⟨V.heap.size, i, none⟩ (.int .u8 x)).heap[V.heap.size + 1]? = some (.cells (bA 16 fun _ => 0) 23)) := by
        show (wr.setCell ⟨V.heap.size, i, none⟩ (.int .u8 x)).heap[V.heap.size + 1]? = _
        rw [heap4o _ G1.out (by omega)]; exact G2.out
      rw [e0, hc]
      clear hi hy hx hd hs hc hm hyd e15
      go_wp2
      go_roundw
      case rel => exact ⟨m + 1, by omega, by rw [HD.out], by go_num, R1.out, R2.out, BL.out.setCell (Nat.le_refl _) _⟩
      case measure => simp [intOf]
    · have em : m = 16 := by omega
      subst em
      have R4 : wr.heap[V.heap.size]? = some (.cells (bA 16 (be (n + a))) 23) := by
        have h := G1.out
        rw [bA_congr (g := be (n + a)) (fun j _ => by unfold upF; rw [if_pos (by omega)])] at h
        exact h
      go_wp2_with (first
        | (refine atLoad 23 (.tmp 2) rfl ?_; go_must (refine wpList_load_row rfl 23 (.tmp 2) rfl V.heap.size rfl 23 _ (0, 0) _ R4 Try.underlying23 rfl (size16 _) ?_; simp only [Act.put, List.setIfInBounds_toArray, List.set_cons_succ, List.set_cons_zero]))
        | (refine atStore 23 (.tmp 4) (.tmp 23) rfl ?_; go_must (refine wpList_store_row rfl 23 (.tmp 4) (.tmp 23) rfl (V.heap.size + 1) _ rfl rfl 23 _ G2.out (size16 _) rfl (bA_one _ _) ?_)))
      refine bodyPost_ret (v := .agg (bA 16 (be (n + a)))) (results_cell_row Try.results24 _ _ (V.heap.size + 1) 23 _ (0, 0) _ rfl (setRow_heap _ _ _ _ _ _ G2.out) Try.underlying23 rfl (size16 _)) rfl ⟨rfl, ?_⟩
      exact below4 BL.out (by omega) _

/- == of arrays of bytes. -/
def eqB (n : Nat) (f g : Nat → Nat) : Bool := (List.range n).all fun i => (f i : Int) == (g i : Int)
theorem equalB8 (d : Nat) (x y : Int) (W : World) : (Op.equalIn (d + 1) 5 (.int .u8 x) (.int .u8 y)).run Try.prog W = .ok (x == y) W := by
  simp only [Op.equalIn, Sem.run_bind, run_underlying Try.underlying5, Result.andThen_ok]
  rfl
theorem partB {n : Nat} (f : Nat → Nat) (i : Nat) (h : i < n) (W : World) : (part 5 (bA n f) i).run Try.prog W = .ok (.int .u8 (f i)) W := by
  have h1 := bA_at n f h
  simp [go_sem, h1]
theorem loopB (n d : Nat) (f g : Nat → Nat) : ∀ (l : List Nat), (∀ i ∈ l, i < n) → ∀ W : World,
    Sem.run Try.prog (forIn l ((none, ()) : Option Bool × Unit) fun i _ => do
              let x ← part 5 (bA n f) (i * 1)
              let y ← part 5 (bA n g) (i * 1)
              let z ← Op.equalIn (d + 1) 5 x y
              if (!z) = true then pure (ForInStep.done (some false, ())) else pure (ForInStep.yield (none, ()))) W
      = .ok (if l.all (fun i => (f i : Int) == (g i : Int)) then (none, ()) else (some false, ())) W := by
  intro l
  induction l with
  | nil => intro _ W; simp
  | cons i l ih =>
    intro h W
    have hi : i < n := h i (by simp)
    simp only [List.forIn_cons, Sem.run_bind, Nat.mul_one, partB f i hi, partB g i hi, equalB8, Result.andThen_ok]
    by_cases e : (f i : Int) = (g i : Int)
    · have hb : ((f i : Int) == (g i : Int)) = true := by simp [e]
      simp only [hb, Bool.not_true, Bool.false_eq_true, if_false, Sem.run_pure, Result.andThen_ok, List.all_cons, Bool.true_and]
      have := ih (fun j hj => h j (by simp [hj])) W
      simp only [Nat.mul_one] at this
      exact this
    · have hb : ((f i : Int) == (g i : Int)) = false := by simpa using e
      simp only [hb, Bool.not_false, if_true, Sem.run_pure, Result.andThen_ok, List.all_cons, Bool.false_and, Bool.false_eq_true, if_false]
theorem equalIn16 (d : Nat) (f g : Nat → Nat) (W : World) : (Op.equalIn (d + 2) 23 (.agg (bA 16 f)) (.agg (bA 16 g))).run Try.prog W = .ok (eqB 16 f g) W := by
  have hs : ∀ W, (sizeOf 5).run Try.prog W = .ok 1 W := by intro W; simp [go_sem]
  rw [Op.equalIn]
  simp only [Sem.run_bind, run_underlying Try.underlying23, Result.andThen_ok, Std.Legacy.Range.forIn_eq_forIn_range', hs]
  have e := loopB 16 d f g (List.range' 0 [:16].size) (by intro i hi; simp at hi; simpa using hi) W
  rw [e]
  have hr : List.range' 0 [:16].size = List.range 16 := by decide
  rw [hr]
  unfold eqB
  cases (List.range 16).all fun i => (f i : Int) == (g i : Int)
  · simp only [Result.andThen_ok]; rfl
  · simp only [Result.andThen_ok]; rfl
theorem equal16 (f g : Nat → Nat) (W : World) : (Op.equal 23 (.agg (bA 16 f)) (.agg (bA 16 g))).run Try.prog W = .ok (eqB 16 f g) W := equalIn16 9998 f g W
theorem eqB_true {n : Nat} {f g : Nat → Nat} (h : ∀ i, i < n → f i = g i) : eqB n f g = true := by
  unfold eqB
  rw [List.all_eq_true]
  intro i hi
  simp [h i (List.mem_range.1 hi)]
theorem noGuard16 : Try.prog.eqGuardType Try.prog.depth 23 = false := by kernel_rfl
theorem exec_eql16 {o : Oper} {a : Act} {w : World} {x y : Operand} {f g : Nat → Nat} (ho : o.op = .binOp .eql 23 x y 23) (hx : a.eval x = .agg (bA 16 f)) (hy : a.eval y = .agg (bA 16 g)) :
    (execOp a.eval o).run Try.prog w = .ok (.value (.bool (eqB 16 f g))) w := by
  have hb : (binOp .eql 23 (.agg (bA 16 f)) (.agg (bA 16 g))).run Try.prog w = .ok (.bool (eqB 16 f g)) w := by
    unfold binOp
    simp only [Sem.run_bind, equal16, Result.andThen_ok, Sem.run_pure]
  unfold execOp
  simp only [ho, hx, hy, eqGuard, Sem.run_bind]
  rw [if_neg (by decide)]
  simp only [Sem.run_bind, run_program, Result.andThen_ok, noGuard16, Bool.not_false, if_true, Sem.run_pure, hb]
theorem exec_neq16 {o : Oper} {a : Act} {w : World} {x y : Operand} {f g : Nat → Nat} (ho : o.op = .binOp .neq 23 x y 23) (hx : a.eval x = .agg (bA 16 f)) (hy : a.eval y = .agg (bA 16 g)) :
    (execOp a.eval o).run Try.prog w = .ok (.value (.bool (!eqB 16 f g))) w := by
  have hb : (binOp .neq 23 (.agg (bA 16 f)) (.agg (bA 16 g))).run Try.prog w = .ok (.bool (!eqB 16 f g)) w := by
    unfold binOp
    simp only [Sem.run_bind, equal16, Result.andThen_ok, Sem.run_pure]
  unfold execOp
  simp only [ho, hx, hy, eqGuard, Sem.run_bind]
  rw [if_neg (by decide)]
  simp only [Sem.run_bind, run_program, Result.andThen_ok, noGuard16, Bool.not_false, if_true, Sem.run_pure, hb]
end Go.Proofs.Ytealknodagdjaaa.Aes
