import Derived.Test.YtealknodagdjaaaI1
import Derived.Test.YtealknodagdjaaaI2
import Derived.Test.YtealknodagdjaaaI4
import Derived.Test.YtealknodagdjaaaY1
namespace Go.Proofs.Ytealknodagdjaaa.Aes
open Go.RowKit Gf8 By8
/- What the laws of layer 4 ask of the program, whatever a Schedule's cells are. -/

/-- The program's functions, by their contracts: sc lays out the round keys. -/
structure Impl (sc : (Nat → Nat) → Array Value) : Prop where
  size : ∀ w, (Try.prog.info? 29).map (·.size) = some (sc w).size
  one : ∀ w, (sc w).all Value.oneCell' = true
  zero : ∀ W, (zeroValue 29).run Try.prog W = .ok (.agg (sc fun _ => 0)) W
  same : ∀ w W, (Op.equal 29 (.agg (sc w)) (.agg (sc w))).run Try.prog W = .ok true W
  guard : Try.prog.eqGuardType Try.prog.depth 29 = false
  new : ∀ (key : Nat → Nat) (V : World), By key → Calls Try.prog 12 #[.agg (bA 16 key)] V fun e w' => e = .returned (.agg (sc (kw key))) ∧ Below V.heap.size V w'
  round : ∀ (w : Nat → Nat) (i : Int) (V : World), (∀ j, j < 176 → w j < 256) → -9223372036854775808 ≤ i → i < 9223372036854775808 → Calls Try.prog 14 #[.agg (sc w), .int .i64 i] V fun e w' => e = .returned (.agg (bA 16 (rkey w i))) ∧ Below V.heap.size V w'
  encr : ∀ (w b : Nat → Nat) (V : World), (∀ j, j < 176 → w j < 256) → By b → Calls Try.prog 13 #[.agg (sc w), .agg (bA 16 b)] V fun e w' => e = .returned (.agg (bA 16 (enc w b))) ∧ Below V.heap.size V w'
  decr : ∀ (w b : Nat → Nat) (V : World), (∀ j, j < 176 → w j < 256) → By b → Calls Try.prog 17 #[.agg (sc w), .agg (bA 16 b)] V fun e w' => e = .returned (.agg (bA 16 (dec w b))) ∧ Below V.heap.size V w'
  stream : ∀ (key : Nat → Nat) (s0 : Nat) (n : Int) (V : World), By key → -9223372036854775808 ≤ n → n < 9223372036854775808 → Calls Try.prog 11 #[.agg (bA 16 key), .agg (bA 16 (be s0)), .int .i64 n] V fun e w' => ∃ r, e = .returned r ∧ w'.ownsRow V.heap.size 5 1 r (slen n) (bytesL (slen n) (maskF (kw key) s0 fun _ => 0)) ∧ Below V.heap.size V w'
  mask : ∀ (key p : Nat → Nat) (s0 len : Nat) (v : Value) (V : World), By key → SliceN V v len p → len ≤ 140737488351232 → Calls Try.prog 22 #[.agg (bA 16 key), .agg (bA 16 (be s0)), v] V fun e w' => ∃ r, e = .returned r ∧ w'.ownsRow V.heap.size 5 1 r len (bytesL len (maskF (kw key) s0 p)) ∧ Below V.heap.size V w'
theorem Impl.sz {sc : (Nat → Nat) → Array Value} (I : Impl sc) (v u : Nat → Nat) : (sc v).size = (sc u).size := by
  have h := I.size v
  rw [I.size u] at h
  exact (Option.some.inj h).symm
section
variable {ops : Array Oper} {rest : List Oper} {o : Oper} {a : Act} {w : World} {Q : Exit → Act → World → Prop}
theorem wpList_loadW {P : Program} (hw : Region.wanted o (yielded ops a.tmps) = true) (ty : TypeId) (x : Operand) (ho : o.op = .load ty x)
    (g : Nat) (hx : a.eval x = .pointer (some ⟨g, 0, none⟩)) (t : TypeId) (cs : Array Value) (fr : Nat × Nat) (d : TypeDesc) (hg : w.heap[g]? = some (.cells cs t fr))
    (hu : P.underlying ty = some d) (hd : (match d with | .struct _ | .array _ _ => true | _ => false) = true) (hi : (P.info? ty).map (·.size) = some cs.size)
    (h : wpList P ops Q rest (a.put o.dst (.agg cs)) w) : wpList P ops Q (o :: rest) a w :=
  BigFrame.wpList_want hw fun _ hK => wp_load_row ty x ho g hx t cs fr d hg hu hd hi (hK _ _ h)
theorem wpList_eql16 {f g : Nat → Nat} (hw : Region.wanted o (yielded ops a.tmps) = true) (x y : Operand) (ho : o.op = .binOp .eql 23 x y 23) (hx : a.eval x = .agg (bA 16 f)) (hy : a.eval y = .agg (bA 16 g))
    (h : wpList Try.prog ops Q rest (a.put o.dst (.bool (eqB 16 f g))) w) : wpList Try.prog ops Q (o :: rest) a w :=
  BigFrame.wpList_want hw fun K hK => by unfold Oper.wp; rw [exec_eql16 ho hx hy]; exact hK _ _ h
theorem atEql16 {P : Program} (x y : Operand) (_ : o.op = .binOp .eql 23 x y 23) (h : wpList P ops Q (o :: rest) a w) : wpList P ops Q (o :: rest) a w := h
theorem exec_sameS {sc : (Nat → Nat) → Array Value} (I : Impl sc) {v : Nat → Nat} {x y : Operand} (ho : o.op = .binOp .eql 29 x y 29) (hx : a.eval x = .agg (sc v)) (hy : a.eval y = .agg (sc v)) :
    (execOp a.eval o).run Try.prog w = .ok (.value (.bool true)) w := by
  have hb : (binOp .eql 29 (.agg (sc v)) (.agg (sc v))).run Try.prog w = .ok (.bool true) w := by
    unfold binOp
    simp only [Sem.run_bind, I.same, Result.andThen_ok, Sem.run_pure]
  unfold execOp
  simp only [ho, hx, hy, eqGuard, Sem.run_bind]
  rw [if_neg (by decide)]
  simp only [Sem.run_bind, run_program, Result.andThen_ok, I.guard, Bool.not_false, if_true, Sem.run_pure, hb]
theorem exec_same16 {f g : Nat → Nat} {x y : Operand} (ho : o.op = .binOp .eql 23 x y 23) (hx : a.eval x = .agg (bA 16 f)) (hy : a.eval y = .agg (bA 16 g)) (h : Eq16 f g) :
    (execOp a.eval o).run Try.prog w = .ok (.value (.bool true)) w := by
  have e := exec_eql16 (w := w) ho hx hy
  rw [eqB_true h] at e
  exact e
theorem exec_notsame16 {f g : Nat → Nat} {x y : Operand} (ho : o.op = .binOp .neq 23 x y 23) (hx : a.eval x = .agg (bA 16 f)) (hy : a.eval y = .agg (bA 16 g)) (h : Eq16 f g) :
    (execOp a.eval o).run Try.prog w = .ok (.value (.bool false)) w := by
  have e := exec_neq16 (w := w) ho hx hy
  rw [eqB_true h] at e
  exact e
theorem execAllocS {sc : (Nat → Nat) → Array Value} (I : Impl sc) (ho : o.op = .alloc 29) : (execOp a.eval o).run Try.prog w = .ok (.value (.pointer (some ⟨w.heap.size, 0, none⟩))) (w.alloc (.cells (sc fun _ => 0) 29)) := by
  have h := I.zero
  unfold execOp
  simp only [ho]
  simp [go_sem, h]
theorem execAlloc16 (ho : o.op = .alloc 23) : (execOp a.eval o).run Try.prog w = .ok (.value (.pointer (some ⟨w.heap.size, 0, none⟩))) (w.alloc (.cells (bA 16 fun _ => 0) 23)) := by
  have h := zero16
  unfold execOp
  simp only [ho]
  simp [go_sem, h]
end
theorem count1 : exKey = countF 1 := rfl
theorem count17 : exB = countF 17 := rfl
theorem exKey_by : By exKey := countF_by 1
theorem exB_by : By exB := countF_by 17
theorem kw_by (key : Nat → Nat) (h : By key) : ∀ j, j < 176 → kw key j < 256 := fun j _ => kw_lt h j
/-- What each of the first operations of alive's region yields. -/
def alS (sc : (Nat → Nat) → Array Value) (L : Nat) (j : Nat) (r : Value) (W : World) : Prop :=
  match j with
  | 0 => r = .agg (sc (kw exKey)) | 1 => r = .agg (bA 16 exB) | 2 => r = .agg (bA 16 (enc (kw exKey) exB))
  | _ => ∃ b, r = .pointer (some ⟨b, 0, none⟩) ∧ L ≤ b ∧ W.heap[b]? = some (.cells (bA 16 fun _ => 0) 23)
theorem alS_on {sc : (Nat → Nat) → Array Value} {L j : Nat} {r : Value} {W W' : World} (h : alS sc L j r W) (hb : Below W.heap.size W W') : alS sc L j r W' := by
  match j, h with
  | 0, h => exact h
  | 1, h => exact h
  | 2, h => exact h
  | n + 3, h =>
    obtain ⟨b, rfl, lb, gb⟩ := h
    exact ⟨b, rfl, lb, by rw [hb.block _ (Array.getElem?_eq_some_iff.1 gb).1]; exact gb⟩

set_option maxRecDepth 20000 in
set_option maxHeartbeats 1000000 in
theorem alive_any {sc : (Nat → Nat) → Array Value} (I : Impl sc) (V : World) :
    Calls Try.prog 9 #[] V fun e w' => e = .returned (.bool true) ∧ Below V.heap.size V w' := by
  have HI : Hid (Impl sc) := I
  have z := I.zero
  have C1 : Hid (∀ W : World, Calls Try.prog 10 #[.int .u8 1] W fun e w' => e = .returned (.agg (bA 16 exKey)) ∧ Below W.heap.size W w') := fun W => counting_any 1 W
  have C17 : Hid (∀ W : World, Calls Try.prog 10 #[.int .u8 17] W fun e w' => e = .returned (.agg (bA 16 exB)) ∧ Below W.heap.size W w') := fun W => counting_any 17 W
  clear I
  go_enter Try.func9, Try.ntmps9
  go_wp2_with (first
    | (go_at_call 10; refine Calls.mono (C1.out _) ?_; rintro e w1 ⟨rfl, hb1⟩)
    | (go_at_call 12; refine (HI.out.new exKey _ exKey_by).mono ?_; rintro e w2 ⟨rfl, hb2⟩)
    | (refine atStore 29 (.tmp 1) (.tmp 4) rfl ?_; go_must (refine wpList_store_row rfl 29 (.tmp 1) (.tmp 4) rfl w2.heap.size _ rfl rfl 29 _ (heapNew w2 _) (HI.out.size _) (HI.out.sz _ _) (HI.out.one _) ?_)))
  obtain ⟨A, hA⟩ : ∃ A, A = w2.heap.size := ⟨_, rfl⟩
  obtain ⟨W0, hW0⟩ : ∃ W0, W0 = (w2.alloc (.cells (sc fun _ => 0) 29)).setRow w2.heap.size (sc (kw exKey)) := ⟨_, rfl⟩
  have gA : W0.heap[A]? = some (.cells (sc (kw exKey)) 29) := by rw [hW0, hA]; exact setRow_heap _ _ _ _ _ _ (heapNew w2 _)
  have b2 : Below V.heap.size V w2 := hb1.trans (hb2.mono hb1.size)
  have b0 : Below V.heap.size V W0 := by rw [hW0]; exact below4 (b2.trans ((belNew w2 _).mono b2.size)) b2.size _
  rw [← hW0, ← hA]
  clear hW0 hA hb1 hb2 b2 z
  have lA : A < W0.heap.size := (Array.getElem?_eq_some_iff.1 gA).1
  refine wp_region_slotsA 4 23 [5, 6, 7, 2] (alS sc W0.heap.size) (by kernel_rfl) (by kernel_rfl) (by kernel_rfl) (by decide) rfl rfl (by decide) (by decide) (fun _ _ _ _ h hb => alS_on h hb) ?_ ?_
  · intro j hj a W hB hf hdep
    have kA : W.heap[A]? = some (.cells (sc (kw exKey)) 29) := by rw [hB.block _ lA]; exact gA
    match j, hj with
    | 0, _ => exact stepV rfl rfl (execLoadRow rfl (hf 1 (by decide)) kA Try.underlying29 rfl (HI.out.size _)) ⟨_, rfl, rfl, Below.refl _ _⟩
    | 1, _ => exact stepC rfl rfl (execCall1 Try.func10 (by kernel_rfl) (by kernel_rfl) rfl rfl) (C17.out W) fun e w' h => ⟨_, h.1, _, rfl, rfl, h.2⟩
    | 2, _ => exact stepC rfl rfl (execCall2 Try.func13 (by kernel_rfl) (by kernel_rfl) rfl (hdep _ rfl 0 rfl) (hdep _ rfl 1 rfl)) (HI.out.encr (kw exKey) exB W (kw_by exKey exKey_by) exB_by) fun e w' h => ⟨_, h.1, _, rfl, rfl, h.2⟩
    | 3, _ => exact stepV rfl rfl (execAlloc16 rfl) ⟨_, rfl, ⟨_, rfl, hB.size, heapNew W _⟩, belNew W _⟩
    | n + 4, h => exact absurd h (by omega)
  · intro x W hB hS
    have x0 : x 0 = .agg (sc (kw exKey)) := hS 0 (by omega)
    have x1 : x 1 = .agg (bA 16 exB) := hS 1 (by omega)
    have x2 : x 2 = .agg (bA 16 (enc (kw exKey) exB)) := hS 2 (by omega)
    obtain ⟨b, x3, lb, gb⟩ := hS 3 (by omega)
    have kA : W.heap[A]? = some (.cells (sc (kw exKey)) 29) := by rw [hB.block _ lA]; exact gA
    obtain ⟨c, hc⟩ : ∃ c, enc (kw exKey) exB = c := ⟨_, rfl⟩
    obtain ⟨W1, hW1⟩ : ∃ W1, W1 = W.setRow b (bA 16 c) := ⟨_, rfl⟩
    have gA1 : W1.heap[A]? = some (.cells (sc (kw exKey)) 29) := by rw [hW1, setRow_other _ _ _ _ (by omega)]; exact kA
    have gb1 : W1.heap[b]? = some (.cells (bA 16 c) 23) := by rw [hW1]; exact setRow_heap _ _ _ _ _ _ gb
    have bW : Below V.heap.size V W1 := by
      have h := b0.trans (hB.mono b0.size)
      rw [hW1]; exact below4 h (by have := b0.size; omega) _
    have hcb : By c := by rw [← hc]; exact enc_by (kw_by exKey exKey_by) exB_by
    have c0 : W1.cell? ⟨b, 0, none⟩ = some (.int .u8 105) := by rw [cellN gb1 (by omega), ← hc, ex_first]; rfl
    have c15 : W1.cell? ⟨b, 15, none⟩ = some (.int .u8 90) := by rw [cellN gb1 (by omega), ← hc, ex_final]; rfl
    have R : Hid (∀ U : World, Calls Try.prog 17 #[.agg (sc (kw exKey)), .agg (bA 16 c)] U fun e w' => e = .returned (.agg (bA 16 exB)) ∧ Below U.heap.size U w') := by
      intro U
      have h := HI.out.decr (kw exKey) c U (kw_by exKey exKey_by) hcb
      rw [← hc, bA_congr (dec_enc (kw_by exKey exKey_by) exB_by), hc] at h
      exact h
    have eqb : eqB 16 exB exB = true := eqB_true fun _ _ => rfl
    have BW : Hid (_) := bW
    simp only [putL, Act.put, List.setIfInBounds_toArray, List.set_cons_succ, List.set_cons_zero, x0, x1, x2, x3, hc]
    refine wpList_store_row rfl 23 (.tmp 2) (.tmp 7) rfl b _ rfl rfl 23 _ gb (size16 _) rfl (bA_one _ _) ?_
    rw [← hW1]
    clear hS x0 x1 x2 x3 gb kA hB hW1 hc hcb bW gA b0 lA lb C1
    go_wp2_with (first
      | (refine atLoad 29 (.tmp 1) rfl ?_; go_must (refine wpList_loadW rfl 29 (.tmp 1) rfl A rfl 29 _ (0, 0) _ gA1 Try.underlying29 rfl (HI.out.size _) ?_; simp only [Act.put, List.setIfInBounds_toArray, List.set_cons_succ, List.set_cons_zero]))
      | (refine atLoad 23 (.tmp 2) rfl ?_; go_must (refine wpList_loadW rfl 23 (.tmp 2) rfl b rfl 23 _ (0, 0) _ gb1 Try.underlying23 rfl (size16 _) ?_; simp only [Act.put, List.setIfInBounds_toArray, List.set_cons_succ, List.set_cons_zero]))
      | (go_at_call 17; refine Calls.mono (R.out _) ?_; rintro e w3 ⟨rfl, hb3⟩)
      | (go_at_call 10; refine Calls.mono (C17.out _) ?_; rintro e w4 ⟨rfl, hb4⟩)
      | (refine atEql16 (.tmp 19) (.tmp 20) rfl ?_; go_must (refine wpList_eql16 rfl (.tmp 19) (.tmp 20) rfl rfl rfl ?_; simp only [Act.put, List.setIfInBounds_toArray, List.set_cons_succ, List.set_cons_zero, eqb])))
    go_ret
    have h3 := BW.out.trans (hb3.mono BW.out.size)
    exact ⟨rfl, h3.trans (hb4.mono h3.size)⟩
end Go.Proofs.Ytealknodagdjaaa.Aes
