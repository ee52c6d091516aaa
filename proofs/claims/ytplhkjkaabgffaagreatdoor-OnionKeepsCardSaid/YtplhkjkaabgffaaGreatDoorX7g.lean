import Derived.Test.YtplhkjkaabgffaaGreatDoorX7a
import Derived.Test.YtplhkjkaabgffaaGreatDoorX7d
namespace Go.Proofs.YtplhkjkaabgffaaGreatDoor
open Go.RowKit
/- A function with many slots, walked with its frame kept closed: regions in order or drawn, by what the slots hold. -/

theorem wpList_of_op {P : Program} {ops : Array Oper} {Q : Exit → Act → World → Prop} {j : Nat} {o : Oper} {a : Act} {w : World} {rest : List Oper} (ho : ops[j]? = some o) (h : wpOp P ops Q j (wpList P ops Q rest) a w) : wpList P ops Q (o :: rest) a w := by
  unfold wpOp at h
  rw [ho] at h
  exact h
/-- A region in its order that goes through states. -/
theorem wp_region_sq {P : Program} {ops : Array Oper} {Q : Exit → Act → World → Prop} {id : Nat} {a0 : Act} {V : World} {σ : Type} (N : Nat) (ds : List (Nat × Nat)) (S : Nat → σ → World → Prop) (v : σ → Nat → Value) (s0 : σ)
    (hN : a0.tmps.size = N) (hD : dsOf ops = ds) (hnd : (ds.map (·.2)).Nodup) (hds : ds.all (fun p => decide (p.2 < N)) = true) (h0 : S 0 s0 V)
    (step : ∀ j, j < ops.size → ∀ s a w, (∀ e, e ∉ ds.map (·.2) → a.eval (.tmp e) = a0.eval (.tmp e)) → (∀ i, i < j → ∀ q, ops[i]? = some q → ∀ d, q.dst = some d → a.eval (.tmp d) = v s i) → (∀ i, j ≤ i → ∀ q, ops[i]? = some q → ∀ d, q.dst = some d → a.eval (.tmp d) = a0.eval (.tmp d)) → S j s w →
      wpOp P ops Q j (fun a' w' => ∃ s', (∃ o, ops[j]? = some o ∧ a' = a.put o.dst (v s' j)) ∧ S (j + 1) s' w' ∧ ∀ i, i < j → v s' i = v s i) a w)
    (fin : ∀ s a w, a.tmps.size = N → a.defers = a0.defers → (∀ e, e ∉ ds.map (·.2) → a.eval (.tmp e) = a0.eval (.tmp e)) → (∀ i q, ops[i]? = some q → ∀ d, q.dst = some d → a.eval (.tmp d) = v s i) → S ops.size s w → Q .normal a w) : (Code.region id ops false).wp P Q a0 V := by
  subst hD
  have hds' : ∀ p ∈ dsOf ops, p.2 < N := fun p hp => by simpa using List.all_eq_true.1 hds p hp
  refine wp_region_list ?_
  have key : ∀ (l : List Oper) (k : Nat), ops.toList.drop k = l → k ≤ ops.size → ∀ s a w, a.tmps.size = N → a.defers = a0.defers → (∀ e, e ∉ (dsOf ops).map (·.2) → a.eval (.tmp e) = a0.eval (.tmp e)) → (∀ i, i < k → ∀ q, ops[i]? = some q → ∀ d, q.dst = some d → a.eval (.tmp d) = v s i) → (∀ i, k ≤ i → ∀ q, ops[i]? = some q → ∀ d, q.dst = some d → a.eval (.tmp d) = a0.eval (.tmp d)) → S k s w → wpList P ops Q l a w := by
    intro l
    induction l with
    | nil =>
      intro k hk hk2 s a w h1 h2 h3 h4 h7 h5
      have e : k = ops.size := by
        have := congrArg List.length hk
        simp at this
        omega
      subst e
      exact fin s a w h1 h2 h3 (fun i q hq => h4 i (Array.getElem?_eq_some_iff.1 hq).1 q hq) h5
    | cons o rest ih =>
      intro k hk hk2 s a w h1 h2 h3 h4 h7 h5
      have hlt : k < ops.size := by
        have := congrArg List.length hk
        simp at this
        omega
      have ho : ops[k]? = some o := by
        have := congrArg (fun l : List Oper => l[0]?) hk
        simpa [List.getElem?_drop] using this
      have hr : ops.toList.drop (k + 1) = rest := by
        have := congrArg List.tail hk
        simpa [List.tail_drop] using this
      refine wpList_of_op ho (wpOp_mono ?_ (step k hlt s a w h3 h4 h7 h5))
      rintro a' w' ⟨s', ⟨o', ho', rfl⟩, hS, hv⟩
      rw [ho] at ho'
      cases ho'
      refine ih (k + 1) hr (by omega) s' _ w' (by rw [put_size]; exact h1) ?_ ?_ ?_ ?_ hS
      · rw [← h2]; cases o.dst <;> rfl
      · intro e he
        cases hd : o.dst with
        | none => exact h3 e he
        | some d =>
          rw [put_other _ _ (fun q => he (by rw [← q]; exact List.mem_map.2 ⟨(k, d), mem_dsOf.2 ⟨o, ho, hd⟩, rfl⟩))]
          exact h3 e he
      · intro i hi q hq d hd
        by_cases e : i = k
        · subst e
          rw [ho] at hq
          cases hq
          rw [hd, put_same _ _ (by rw [h1]; exact hds' _ (mem_dsOf.2 ⟨o, ho, hd⟩))]
        · have h6 := h4 i (by omega) q hq d hd
          rw [hv i (by omega), ← h6]
          cases hd2 : o.dst with
          | none => rfl
          | some d' =>
            have hne : d' ≠ d := by
              intro q2
              subst q2
              exact e (inj2 _ hnd i k d' (mem_dsOf.2 ⟨q, hq, hd⟩) (mem_dsOf.2 ⟨o, ho, hd2⟩))
            rw [put_other _ _ hne]
      · intro i hi q hq d hd
        rw [← h7 i (by omega) q hq d hd]
        cases hd2 : o.dst with
        | none => rfl
        | some d' =>
          have hne : d' ≠ d := by
            intro q2
            subst q2
            have := inj2 _ hnd i k d' (mem_dsOf.2 ⟨q, hq, hd⟩) (mem_dsOf.2 ⟨o, ho, hd2⟩)
            omega
          rw [put_other _ _ hne]
  exact key ops.toList 0 (by simp) (by omega) s0 a0 V hN rfl (fun _ _ => rfl) (fun i hi => by omega) (fun _ _ _ _ _ _ => rfl) h0
/-- A region in its order whose values are known; the world stays. -/
theorem wp_region_sqK {P : Program} {ops : Array Oper} {Q : Exit → Act → World → Prop} {id : Nat} {a0 : Act} {V : World} (N : Nat) (ds : List (Nat × Nat)) (v : Nat → Value)
    (hN : a0.tmps.size = N) (hD : dsOf ops = ds) (hnd : (ds.map (·.2)).Nodup) (hds : ds.all (fun p => decide (p.2 < N)) = true)
    (step : ∀ j, j < ops.size → ∀ a, (∀ e, e ∉ ds.map (·.2) → a.eval (.tmp e) = a0.eval (.tmp e)) → (∀ i, i < j → ∀ q, ops[i]? = some q → ∀ d, q.dst = some d → a.eval (.tmp d) = v i) → (∀ i, j ≤ i → ∀ q, ops[i]? = some q → ∀ d, q.dst = some d → a.eval (.tmp d) = a0.eval (.tmp d)) → 
      wpOp P ops Q j (fun a' w' => (∃ o, ops[j]? = some o ∧ a' = a.put o.dst (v j)) ∧ w' = V) a V)
    (fin : ∀ a, a.tmps.size = N → a.defers = a0.defers → (∀ e, e ∉ ds.map (·.2) → a.eval (.tmp e) = a0.eval (.tmp e)) → (∀ i q, ops[i]? = some q → ∀ d, q.dst = some d → a.eval (.tmp d) = v i) → Q .normal a V) : (Code.region id ops false).wp P Q a0 V := by
  refine wp_region_sq (σ := Unit) N ds (fun _ _ w => w = V) (fun _ => v) () hN hD hnd hds rfl ?_ ?_
  · rintro j hj s a w hf hv hn rfl
    refine wpOp_mono ?_ (step j hj a hf hv hn)
    rintro a' w' ⟨h1, h2⟩
    exact ⟨(), h1, h2, fun _ _ => rfl⟩
  · rintro s a w h1 h2 h3 h4 rfl
    exact fin a h1 h2 h3 h4
/-- A region in its order whose values and worlds are known. -/
theorem wp_region_sqW {P : Program} {ops : Array Oper} {Q : Exit → Act → World → Prop} {id : Nat} {a0 : Act} (N : Nat) (ds : List (Nat × Nat)) (v : Nat → Value) (ws : Nat → World)
    (hN : a0.tmps.size = N) (hD : dsOf ops = ds) (hnd : (ds.map (·.2)).Nodup) (hds : ds.all (fun p => decide (p.2 < N)) = true)
    (step : ∀ j, j < ops.size → ∀ a, (∀ e, e ∉ ds.map (·.2) → a.eval (.tmp e) = a0.eval (.tmp e)) → (∀ i, i < j → ∀ q, ops[i]? = some q → ∀ d, q.dst = some d → a.eval (.tmp d) = v i) → (∀ i, j ≤ i → ∀ q, ops[i]? = some q → ∀ d, q.dst = some d → a.eval (.tmp d) = a0.eval (.tmp d)) → 
      wpOp P ops Q j (fun a' w' => (∃ o, ops[j]? = some o ∧ a' = a.put o.dst (v j)) ∧ w' = ws (j + 1)) a (ws j))
    (fin : ∀ a, a.tmps.size = N → a.defers = a0.defers → (∀ e, e ∉ ds.map (·.2) → a.eval (.tmp e) = a0.eval (.tmp e)) → (∀ i q, ops[i]? = some q → ∀ d, q.dst = some d → a.eval (.tmp d) = v i) → Q .normal a (ws ops.size)) : (Code.region id ops false).wp P Q a0 (ws 0) := by
  refine wp_region_sq (σ := Unit) N ds (fun j _ w => w = ws j) (fun _ => v) () hN hD hnd hds rfl ?_ ?_
  · rintro j hj s a w hf hv hn rfl
    refine wpOp_mono ?_ (step j hj a hf hv hn)
    rintro a' w' ⟨h1, h2⟩
    exact ⟨(), h1, h2, fun _ _ => rfl⟩
  · rintro s a w h1 h2 h3 h4 rfl
    exact fin a h1 h2 h3 h4
/-- A drawn region that goes through states, its frame kept closed. -/
theorem wp_region_stA {P : Program} {ops : Array Oper} {Q : Exit → Act → World → Prop} {id : Nat} {a0 : Act} {V : World} {σ : Type} (N : Nat) (ds : List (Nat × Nat)) (S : (Nat → Bool) → σ → World → Prop) (v : σ → Nat → Value) (s0 : σ)
    (hm : P.follows .mixedOrders = true) (hf : frontB .any ops = true) (hN : a0.tmps.size = N) (hD : dsOf ops = ds) (hnd : (ds.map (·.2)).Nodup) (hds : ds.all (fun p => decide (p.2 < N)) = true)
    (h0 : S (fun _ => false) s0 V.drew)
    (step : ∀ j, j < ops.size → ∀ l s a w, l j = false → (∀ e, e ∉ ds.map (·.2) → a.eval (.tmp e) = a0.eval (.tmp e)) → (∀ o, ops[j]? = some o → ∀ i, waits o i = true → ∀ q, ops[i]? = some q → ∀ d, q.dst = some d → a.eval (.tmp d) = v s i) →
      (∀ o, ops[j]? = some o → ∀ i, waits o i = true → l i = true) → (∀ i q, ops[i]? = some q → l i = true → ∀ m, waits q m = true → l m = true) → S l s w → wpOp P ops Q j (fun a' w' => ∃ s', (∃ o, ops[j]? = some o ∧ a' = a.put o.dst (v s' j)) ∧ S (updB l j) s' w' ∧ ∀ i, i < ops.size → l i = true → v s' i = v s i) a w)
    (fin : ∀ l s a w, a.tmps.size = N → a.defers = a0.defers → (∀ e, e ∉ ds.map (·.2) → a.eval (.tmp e) = a0.eval (.tmp e)) → (∀ p, p ∈ ds → a.eval (.tmp p.2) = v s p.1) → (∀ j, j < ops.size → l j = true) → S l s w → Q .normal a w) : (Code.region id ops true).wp P Q a0 V := by
  refine wp_region_st N ds S v s0 hm hf hN hD hnd hds h0 step ?_
  intro l s w hall hS
  refine fin l s _ w (by rw [putP_size]; exact hN) (putP_defers _ _ _) (fun e he => putP_other _ _ _ he) (fun p hp => putP_same _ _ _ hnd (fun q hq => ?_) p hp) hall hS
  rw [hN]
  simpa using List.all_eq_true.1 hds q hq
/-- A drawn region whose values are known, its frame kept closed. -/
theorem wp_region_detA {P : Program} {ops : Array Oper} {Q : Exit → Act → World → Prop} {id : Nat} {a0 : Act} {V : World} (N : Nat) (ds : List (Nat × Nat)) (vals : Nat → Value) (T : (Nat → Bool) → World → Prop)
    (hm : P.follows .mixedOrders = true) (hf : frontB .any ops = true) (hN : a0.tmps.size = N) (hD : dsOf ops = ds) (hnd : (ds.map (·.2)).Nodup) (hds : ds.all (fun p => decide (p.2 < N)) = true)
    (h0 : T (fun _ => false) V.drew)
    (step : ∀ j, j < ops.size → ∀ l a w, l j = false → (∀ e, e ∉ ds.map (·.2) → a.eval (.tmp e) = a0.eval (.tmp e)) → (∀ o, ops[j]? = some o → ∀ i, waits o i = true → ∀ q, ops[i]? = some q → ∀ d, q.dst = some d → a.eval (.tmp d) = vals i) →
      (∀ o, ops[j]? = some o → ∀ i, waits o i = true → l i = true) → (∀ i q, ops[i]? = some q → l i = true → ∀ m, waits q m = true → l m = true) → (∀ i q, ops[i]? = some q → ∀ d, q.dst = some d → l i = false → a.eval (.tmp d) = a0.eval (.tmp d)) → T l w → wpOp P ops Q j (fun a' w' => (∃ o, ops[j]? = some o ∧ a' = a.put o.dst (vals j)) ∧ T (updB l j) w') a w)
    (fin : ∀ l a w, a.tmps.size = N → a.defers = a0.defers → (∀ e, e ∉ ds.map (·.2) → a.eval (.tmp e) = a0.eval (.tmp e)) → (∀ p, p ∈ ds → a.eval (.tmp p.2) = vals p.1) → (∀ j, j < ops.size → l j = true) → T l w → Q .normal a w) : (Code.region id ops true).wp P Q a0 V := by
  refine wp_region_det N ds vals T hm hf hN hD hnd hds h0 step ?_
  intro l w hall hT
  refine fin l _ w (by rw [putP_size]; exact hN) (putP_defers _ _ _) (fun e he => putP_other _ _ _ he) (fun p hp => putP_same _ _ _ hnd (fun q hq => ?_) p hp) hall hT
  rw [hN]
  simpa using List.all_eq_true.1 hds q hq
theorem exit_in {id : Nat} {Q : Exit → Act → World → Prop} {a : Act} {w : World} (h : Q .normal a w) : Exit.inBlock id Q (.exit id) a w := by
  simp only [Exit.inBlock, if_true]
  exact h
theorem exit_then {id : Nat} {K : Act → World → Prop} {Q : Exit → Act → World → Prop} {a : Act} {w : World} (h : Q (.exit id) a w) : Exit.then K Q (.exit id) a w := h
/-- The region that a code begins with. -/
def leadR : Code → Nat → Bool
  | .seq x _, k => leadR x k
  | .region id _ _, k => Nat.beq id k
  | _, _ => false
/-- What stands from region k on. -/
def fromR (k : Nat) : Code → Code
  | .seq x y => bif leadR x k then .seq x y else fromR k y
  | c => c
end Go.Proofs.YtplhkjkaabgffaaGreatDoor

namespace Go.Proofs.YtplhkjkaabgffaaGreatDoor.Oni
open Go.RowKit Gf8 Aes By8 Cel
/- OnionKeeps behind its first calls, the frame kept closed. Written by tools/mkX7g.py. -/

/-- What lies where. -/
structure KX where
  (J M n L kg kc ig ic wg wc ag ac bg bc cg cc xg xc yg yc xI yI kb koff kcap icap : Nat)
  ia : Option Addr
  (T key inner on nx nonce : Nat → Nat)
def KX.row (c : KX) (t : Nat) : Value := match t with
  | 0 => .slice (some ⟨c.wg, 0, none⟩) c.M c.wc
  | 1 => .slice (some ⟨c.kg, 0, none⟩) 34 c.kc
  | 2 => .slice (some ⟨c.ig, 0, none⟩) (c.n + 2) c.ic
  | 3 => .slice (some ⟨c.ag, 0, none⟩) c.M c.ac
  | 4 => .slice (some ⟨c.bg, 0, none⟩) c.M c.bc
  | 5 => .slice (some ⟨c.cg, 0, none⟩) 322 c.cc
  | 6 => .slice (some ⟨c.xg, 0, none⟩) 320 c.xc
  | _ => .slice (some ⟨c.yg, 0, none⟩) 320 c.yc
structure KA (c : KX) (a : Act) : Prop where
  sz : a.tmps.size = 406
  df : a.defers = []
  t1 : a.eval (.tmp 1) = .pointer (some ⟨c.J, 0, none⟩)
  t3 : a.eval (.tmp 3) = c.row 0
  t5 : a.eval (.tmp 5) = c.row 1
  t6 : a.eval (.tmp 6) = c.row 2
  t7 : a.eval (.tmp 7) = c.row 3
  t9 : a.eval (.tmp 9) = c.row 4
  t11 : a.eval (.tmp 11) = c.row 5
  t12 : a.eval (.tmp 12) = .pointer (some ⟨c.xI, 0, none⟩)
  t14 : a.eval (.tmp 14) = .pointer (some ⟨c.yI, 0, none⟩)
theorem KA.keep {c : KX} {a a' : Act} {ds : List Nat} (h : KA c a) (hs : a'.tmps.size = 406) (hd : a'.defers = a.defers) (hf : ∀ e, e ∉ ds → a'.eval (.tmp e) = a.eval (.tmp e)) (hk : ([1, 3, 5, 6, 7, 9, 11, 12, 14] : List Nat).all (fun k => !ds.contains k) = true) : KA c a' := by
  have hk2 : ∀ k, k ∈ ([1, 3, 5, 6, 7, 9, 11, 12, 14] : List Nat) → k ∉ ds := fun k hk1 => by
    have := List.all_eq_true.1 hk k hk1
    simpa using this
  exact ⟨hs, hd.trans h.df, (hf 1 (hk2 1 (by simp))).trans h.t1, (hf 3 (hk2 3 (by simp))).trans h.t3, (hf 5 (hk2 5 (by simp))).trans h.t5, (hf 6 (hk2 6 (by simp))).trans h.t6, (hf 7 (hk2 7 (by simp))).trans h.t7, (hf 9 (hk2 9 (by simp))).trans h.t9, (hf 11 (hk2 11 (by simp))).trans h.t11, (hf 12 (hk2 12 (by simp))).trans h.t12, (hf 14 (hk2 14 (by simp))).trans h.t14⟩
structure KW (c : KX) (V1 : World) (ff : Nat → Nat → Nat) (W : World) : Prop where
  fam : Fam V1.heap.size 8 c.row (kN c.M c.n) ff W
  bel : Below V1.heap.size V1 W
  px : W.heap[c.xI]? = some (.cells (pC (c.row 6) c.T) 33)
  py : W.heap[c.yI]? = some (.cells (pC (c.row 7) c.T) 33)
theorem KW.on {c : KX} {V1 W W' : World} {ff : Nat → Nat → Nat} (h : KW c V1 ff W) (hb : Below W.heap.size W W') : KW c V1 ff W' :=
  ⟨h.fam.on hb, h.bel.trans (hb.mono h.bel.size), by rw [hb.block _ (Array.getElem?_eq_some_iff.1 h.px).1]; exact h.px, by rw [hb.block _ (Array.getElem?_eq_some_iff.1 h.py).1]; exact h.py⟩
structure KF (c : KX) (V V1 : World) : Prop where
  sz : 82 ≤ c.M ∧ c.M ≤ 320 ∧ c.n ≤ c.M - 34 ∧ 34 ≤ c.kc ∧ c.n + 2 ≤ c.ic ∧ 322 ≤ c.cc
  ok : ∀ W, Below V1.heap.size V1 W → Below V.heap.size V W ∧ SliceN W (.slice (some ⟨c.kb, c.koff, none⟩) 32 c.kcap) 32 c.key ∧ SliceZ W (.slice c.ia c.n c.icap) c.n c.inner
  job : ∀ W, Below V1.heap.size V1 W → W.heap[c.J]? = some (.cells (jC (.slice (some ⟨c.kb, c.koff, none⟩) 32 c.kcap) c.nonce (c.L : Int) (.slice c.ia c.n c.icap)) 25)
  pw : ∀ W v u kk, Below V1.heap.size V1 W → SliceN W v 32 kk → SliceN W u c.n c.inner → Calls Tryz.prog 6 #[v, .agg (bA 16 c.nonce), .int .i64 (c.L : Int), u] W fun e w' => ∃ r, e = .returned (.tuple #[r, .int .i64 0]) ∧ w'.ownsRow W.heap.size 5 1 r c.M (bytesL c.M (wrF kk c.nonce c.L c.n c.inner)) ∧ Below W.heap.size W w'
  rw_ : ∀ W v u kk, Below V1.heap.size V1 W → SliceN W v 32 kk → SliceN W u c.n c.inner → Calls Tryz.prog 5 #[v, .agg (bA 16 c.nonce), .int .i64 (c.L : Int), u] W fun e w' => ∃ r, e = .returned (.tuple #[r, .int .i64 0]) ∧ w'.ownsRow W.heap.size 5 1 r c.M (bytesL c.M (wrF kk c.nonce c.L c.n c.inner)) ∧ Below W.heap.size W w'
  on_ : ∀ j, c.on j < 256
  key_ : ∀ j, j < 32 → c.key j < 256
  inn_ : ∀ j, j < c.n → c.inner j < 256
  wr_ : ∀ kk j, wrF kk c.nonce c.L c.n c.inner j < 256
section
variable {o : Oper} {a : Act} {w : World}
theorem execNeqU {x : Operand} {p : Int} (ho : o.op = .binOp .neq 5 x (.const (.int .u8 p)) 5) (hx : a.eval x = .int .u8 p) : (execOp a.eval o).run Tryz.prog w = .ok (.value (.bool false)) w := by
  unfold execOp
  simp only [ho, hx]
  simp [go_sem]
theorem execEqE0 {x : Operand} (ho : o.op = .binOp .eql 29 x (.const (.int .i64 0)) 29) (hx : a.eval x = .int .i64 0) : (execOp a.eval o).run Tryz.prog w = .ok (.value (.bool true)) w := by
  unfold execOp
  simp only [ho, hx]
  simp [go_sem]
theorem execLtI {x : Operand} {p q : Nat} (ho : o.op = .binOp .lss 3 x (.const (.int .i64 (q : Int))) 3) (hx : a.eval x = .int .i64 (p : Int)) : (execOp a.eval o).run Tryz.prog w = .ok (.value (.bool (decide (p < q)))) w := by
  unfold execOp
  simp only [ho, hx]
  simp [go_sem]
theorem execLtV {x y : Operand} {p q : Nat} (ho : o.op = .binOp .lss 3 x y 3) (hx : a.eval x = .int .i64 (p : Int)) (hy : a.eval y = .int .i64 (q : Int)) : (execOp a.eval o).run Tryz.prog w = .ok (.value (.bool (decide (p < q)))) w := by
  unfold execOp
  simp only [ho, hx, hy]
  simp [go_sem]
end

set_option maxRecDepth 100000 in
set_option maxHeartbeats 2000000 in
theorem keeps19 (c : KX) (V V1 W : World) (F : KF c V V1) (K : KW c V1 (kF c.key c.inner c.on c.nx c.M c.n) W) (h : ∀ a, KA c a → (fromR 21 (Tryz.f3.body.getD .skip)).wp Tryz.prog (bodyPost Tryz.prog Tryz.f3 fun e w' => e = .returned (.bool true) ∧ Below V.heap.size V w') a W) (a : Act) (A : KA c a) : (fromR 19 (Tryz.f3.body.getD .skip)).wp Tryz.prog (bodyPost Tryz.prog Tryz.f3 fun e w' => e = .returned (.bool true) ∧ Below V.heap.size V w') a W := by
  have CL : W.cell? ⟨c.kg, 32, none⟩ = some (.int .u8 161) ∧ W.cell? ⟨c.kg, 33, none⟩ = some (.int .u8 162) ∧ W.cell? ⟨c.ig, c.n, none⟩ = some (.int .u8 163) ∧ W.cell? ⟨c.ig, c.n + 1, none⟩ = some (.int .u8 164) ∧ W.cell? ⟨c.cg, 320, none⟩ = some (.int .u8 165) ∧ W.cell? ⟨c.cg, 321, none⟩ = some (.int .u8 166) := by
    have k1 : W.ownsRow V1.heap.size 5 1 (.slice (some ⟨c.kg, 0, none⟩) 34 c.kc) 34 (bytesL 34 (kQ c.key)) := K.fam.rows 1 (by omega)
    have k2 : W.ownsRow V1.heap.size 5 1 (.slice (some ⟨c.ig, 0, none⟩) (c.n + 2) c.ic) (c.n + 2) (bytesL (c.n + 2) (iQ c.n c.inner)) := K.fam.rows 2 (by omega)
    have k5 : W.ownsRow V1.heap.size 5 1 (.slice (some ⟨c.cg, 0, none⟩) 322 c.cc) 322 (bytesL 322 (cQ c.M c.on)) := K.fam.rows 5 (by omega)
    have a1 := own_at k1 (show 32 < 34 by omega)
    have a2 := own_at k1 (show 33 < 34 by omega)
    have a3 := own_at k2 (show c.n < c.n + 2 by omega)
    have a4 := own_at k2 (show c.n + 1 < c.n + 2 by omega)
    have a5 := own_at k5 (show 320 < 322 by omega)
    have a6 := own_at k5 (show 321 < 322 by omega)
    rw [show kQ c.key 32 = 161 from rfl] at a1
    rw [show kQ c.key 33 = 162 from rfl] at a2
    rw [show iQ c.n c.inner c.n = 163 by unfold iQ; rw [if_neg (by omega)]; omega] at a3
    rw [show iQ c.n c.inner (c.n + 1) = 164 by unfold iQ; rw [if_neg (by omega)]; omega] at a4
    rw [show cQ c.M c.on 320 = 165 by unfold cQ; rw [if_neg (by have := F.sz; omega), if_pos rfl]] at a5
    rw [show cQ c.M c.on 321 = 166 by unfold cQ; rw [if_neg (by have := F.sz; omega), if_neg (by omega), if_pos rfl]] at a6
    exact ⟨a1, a2, a3, a4, a5, a6⟩
  refine wp_seq ?_
  refine wp_seq ?_
  refine wp_region_sqK 406 [(0, 202), (1, 203), (2, 204), (3, 205), (4, 206), (5, 207), (6, 208), (7, 209), (8, 210), (9, 211), (10, 212), (11, 213), (12, 214), (13, 215), (14, 216), (15, 217), (16, 218), (17, 219), (18, 220), (19, 221), (20, 222), (21, 223), (22, 224), (23, 225), (24, 226), (25, 227), (26, 228), (27, 229), (28, 230), (29, 231), (30, 232), (31, 233), (32, 234), (33, 235), (34, 236), (35, 237), (36, 238), (37, 239), (38, 240), (39, 241), (40, 242)] (fun i_ => match i_ with | 0 => .slice (some ⟨c.kg, 0, none⟩) 34 c.kc | 1 => .pointer (some ⟨c.kg, 32, none⟩) | 2 => .int .u8 161 | 3 => .bool false | 4 => .bool false | 5 => .slice (some ⟨c.kg, 0, none⟩) 34 c.kc | 6 => .pointer (some ⟨c.kg, 33, none⟩) | 7 => .int .u8 162 | 8 => .bool false | 9 => .bool false | 10 => .bool false | 11 => .slice (some ⟨c.ig, 0, none⟩) (c.n + 2) c.ic | 12 => .pointer (some ⟨c.J, 18, none⟩) | 13 => .slice c.ia c.n c.icap | 14 => .int .i64 ((c.n : Nat) : Int) | 15 => .pointer (some ⟨c.ig, c.n, none⟩) | 16 => .int .u8 163 | 17 => .bool false | 18 => .bool false | 19 => .bool false | 20 => .slice (some ⟨c.ig, 0, none⟩) (c.n + 2) c.ic | 21 => .pointer (some ⟨c.J, 18, none⟩) | 22 => .slice c.ia c.n c.icap | 23 => .int .i64 ((c.n : Nat) : Int) | 24 => .int .i64 ((c.n + 1 : Nat) : Int) | 25 => .pointer (some ⟨c.ig, c.n + 1, none⟩) | 26 => .int .u8 164 | 27 => .bool false | 28 => .bool false | 29 => .bool false | 30 => .slice (some ⟨c.cg, 0, none⟩) 322 c.cc | 31 => .pointer (some ⟨c.cg, 320, none⟩) | 32 => .int .u8 165 | 33 => .bool false | 34 => .bool false | 35 => .bool false | 36 => .slice (some ⟨c.cg, 0, none⟩) 322 c.cc | 37 => .pointer (some ⟨c.cg, 321, none⟩) | 38 => .int .u8 166 | 39 => .bool false | 40 => .bool false | _ => undef) A.sz (by kernel_rfl) (by decide) (by decide) ?_ ?_
  · intro i_ hi_ a hf hv hn
    match i_, hi_ with
    | 0, _ => exact stepV rfl rfl (execMvB rfl ((hf 5 (by decide)).trans A.t5)) ⟨⟨_, rfl, rfl⟩, rfl⟩
    | 1, _ => exact stepV rfl rfl (execIdxS0 (k := 32) rfl (hv 0 (by omega) _ rfl _ rfl) rfl (by have := F.sz; omega)) ⟨⟨_, rfl, rfl⟩, rfl⟩
    | 2, _ => exact stepV rfl rfl (execLdB rfl (hv 1 (by omega) _ rfl _ rfl) CL.1) ⟨⟨_, rfl, rfl⟩, rfl⟩
    | 3, _ => exact stepV rfl rfl (execNeqU rfl (hv 2 (by omega) _ rfl _ rfl)) ⟨⟨_, rfl, rfl⟩, rfl⟩
    | 4, _ => exact stepV rfl rfl (execMvB rfl (hv 3 (by omega) _ rfl _ rfl)) ⟨⟨_, rfl, rfl⟩, rfl⟩
    | 5, _ => exact stepV rfl (wantedOf rfl (yieldedAt rfl rfl (show a.eval (.tmp 206) = .bool false from (hv 4 (by omega) _ rfl _ rfl)))) (execMvB rfl ((hf 5 (by decide)).trans A.t5)) ⟨⟨_, rfl, rfl⟩, rfl⟩
    | 6, _ => exact stepV rfl (wantedOf rfl (yieldedAt rfl rfl (show a.eval (.tmp 206) = .bool false from (hv 4 (by omega) _ rfl _ rfl)))) (execIdxS0 (k := 33) rfl (hv 5 (by omega) _ rfl _ rfl) rfl (by have := F.sz; omega)) ⟨⟨_, rfl, rfl⟩, rfl⟩
    | 7, _ => exact stepV rfl (wantedOf rfl (yieldedAt rfl rfl (show a.eval (.tmp 206) = .bool false from (hv 4 (by omega) _ rfl _ rfl)))) (execLdB rfl (hv 6 (by omega) _ rfl _ rfl) CL.2.1) ⟨⟨_, rfl, rfl⟩, rfl⟩
    | 8, _ => exact stepV rfl (wantedOf rfl (yieldedAt rfl rfl (show a.eval (.tmp 206) = .bool false from (hv 4 (by omega) _ rfl _ rfl)))) (execNeqU rfl (hv 7 (by omega) _ rfl _ rfl)) ⟨⟨_, rfl, rfl⟩, rfl⟩
    | 9, _ => exact stepV rfl rfl (execPick (b := false) rfl (hv 4 (by omega) _ rfl _ rfl) (hv 8 (by omega) _ rfl _ rfl)) ⟨⟨_, rfl, rfl⟩, rfl⟩
    | 10, _ => exact stepV rfl rfl (execMvB rfl (hv 9 (by omega) _ rfl _ rfl)) ⟨⟨_, rfl, rfl⟩, rfl⟩
    | 11, _ => exact stepV rfl (wantedOf rfl (yieldedAt rfl rfl (show a.eval (.tmp 212) = .bool false from (hv 10 (by omega) _ rfl _ rfl)))) (execMvB rfl ((hf 6 (by decide)).trans A.t6)) ⟨⟨_, rfl, rfl⟩, rfl⟩
    | 12, _ => exact stepV rfl (wantedOf rfl (yieldedAt rfl rfl (show a.eval (.tmp 212) = .bool false from (hv 10 (by omega) _ rfl _ rfl)))) (execJ3 rfl ((hf 1 (by decide)).trans A.t1)) ⟨⟨_, rfl, rfl⟩, rfl⟩
    | 13, _ => exact stepV rfl (wantedOf rfl (yieldedAt rfl rfl (show a.eval (.tmp 212) = .bool false from (hv 10 (by omega) _ rfl _ rfl)))) (execLdS rfl (hv 12 (by omega) _ rfl _ rfl) (jC_at (F.job W K.bel)).2.2.2) ⟨⟨_, rfl, rfl⟩, rfl⟩
    | 14, _ => exact stepV rfl (wantedOf rfl (yieldedAt rfl rfl (show a.eval (.tmp 212) = .bool false from (hv 10 (by omega) _ rfl _ rfl)))) (execLenV (len := c.n) rfl (hv 13 (by omega) _ rfl _ rfl) ⟨_, _, rfl⟩) ⟨⟨_, rfl, rfl⟩, rfl⟩
    | 15, _ => exact stepV rfl (wantedOf rfl (yieldedAt rfl rfl (show a.eval (.tmp 212) = .bool false from (hv 10 (by omega) _ rfl _ rfl)))) (execIdxS0 (k := c.n) rfl (hv 11 (by omega) _ rfl _ rfl) (hv 14 (by omega) _ rfl _ rfl) (by have := F.sz; omega)) ⟨⟨_, rfl, rfl⟩, rfl⟩
    | 16, _ => exact stepV rfl (wantedOf rfl (yieldedAt rfl rfl (show a.eval (.tmp 212) = .bool false from (hv 10 (by omega) _ rfl _ rfl)))) (execLdB rfl (hv 15 (by omega) _ rfl _ rfl) CL.2.2.1) ⟨⟨_, rfl, rfl⟩, rfl⟩
    | 17, _ => exact stepV rfl (wantedOf rfl (yieldedAt rfl rfl (show a.eval (.tmp 212) = .bool false from (hv 10 (by omega) _ rfl _ rfl)))) (execNeqU rfl (hv 16 (by omega) _ rfl _ rfl)) ⟨⟨_, rfl, rfl⟩, rfl⟩
    | 18, _ => exact stepV rfl rfl (execPick (b := false) rfl (hv 10 (by omega) _ rfl _ rfl) (hv 17 (by omega) _ rfl _ rfl)) ⟨⟨_, rfl, rfl⟩, rfl⟩
    | 19, _ => exact stepV rfl rfl (execMvB rfl (hv 18 (by omega) _ rfl _ rfl)) ⟨⟨_, rfl, rfl⟩, rfl⟩
    | 20, _ => exact stepV rfl (wantedOf rfl (yieldedAt rfl rfl (show a.eval (.tmp 221) = .bool false from (hv 19 (by omega) _ rfl _ rfl)))) (execMvB rfl ((hf 6 (by decide)).trans A.t6)) ⟨⟨_, rfl, rfl⟩, rfl⟩
    | 21, _ => exact stepV rfl (wantedOf rfl (yieldedAt rfl rfl (show a.eval (.tmp 221) = .bool false from (hv 19 (by omega) _ rfl _ rfl)))) (execJ3 rfl ((hf 1 (by decide)).trans A.t1)) ⟨⟨_, rfl, rfl⟩, rfl⟩
    | 22, _ => exact stepV rfl (wantedOf rfl (yieldedAt rfl rfl (show a.eval (.tmp 221) = .bool false from (hv 19 (by omega) _ rfl _ rfl)))) (execLdS rfl (hv 21 (by omega) _ rfl _ rfl) (jC_at (F.job W K.bel)).2.2.2) ⟨⟨_, rfl, rfl⟩, rfl⟩
    | 23, _ => exact stepV rfl (wantedOf rfl (yieldedAt rfl rfl (show a.eval (.tmp 221) = .bool false from (hv 19 (by omega) _ rfl _ rfl)))) (execLenV (len := c.n) rfl (hv 22 (by omega) _ rfl _ rfl) ⟨_, _, rfl⟩) ⟨⟨_, rfl, rfl⟩, rfl⟩
    | 24, _ => exact stepV rfl (wantedOf rfl (yieldedAt rfl rfl (show a.eval (.tmp 221) = .bool false from (hv 19 (by omega) _ rfl _ rfl)))) (execAdI (p := c.n) (q := 1) rfl (hv 23 (by omega) _ rfl _ rfl) rfl (by have := F.sz; omega)) ⟨⟨_, rfl, rfl⟩, rfl⟩
    | 25, _ => exact stepV rfl (wantedOf rfl (yieldedAt rfl rfl (show a.eval (.tmp 221) = .bool false from (hv 19 (by omega) _ rfl _ rfl)))) (execIdxS0 (k := c.n + 1) rfl (hv 20 (by omega) _ rfl _ rfl) (hv 24 (by omega) _ rfl _ rfl) (by have := F.sz; omega)) ⟨⟨_, rfl, rfl⟩, rfl⟩
    | 26, _ => exact stepV rfl (wantedOf rfl (yieldedAt rfl rfl (show a.eval (.tmp 221) = .bool false from (hv 19 (by omega) _ rfl _ rfl)))) (execLdB rfl (hv 25 (by omega) _ rfl _ rfl) CL.2.2.2.1) ⟨⟨_, rfl, rfl⟩, rfl⟩
    | 27, _ => exact stepV rfl (wantedOf rfl (yieldedAt rfl rfl (show a.eval (.tmp 221) = .bool false from (hv 19 (by omega) _ rfl _ rfl)))) (execNeqU rfl (hv 26 (by omega) _ rfl _ rfl)) ⟨⟨_, rfl, rfl⟩, rfl⟩
    | 28, _ => exact stepV rfl rfl (execPick (b := false) rfl (hv 19 (by omega) _ rfl _ rfl) (hv 27 (by omega) _ rfl _ rfl)) ⟨⟨_, rfl, rfl⟩, rfl⟩
    | 29, _ => exact stepV rfl rfl (execMvB rfl (hv 28 (by omega) _ rfl _ rfl)) ⟨⟨_, rfl, rfl⟩, rfl⟩
    | 30, _ => exact stepV rfl (wantedOf rfl (yieldedAt rfl rfl (show a.eval (.tmp 231) = .bool false from (hv 29 (by omega) _ rfl _ rfl)))) (execMvB rfl ((hf 11 (by decide)).trans A.t11)) ⟨⟨_, rfl, rfl⟩, rfl⟩
    | 31, _ => exact stepV rfl (wantedOf rfl (yieldedAt rfl rfl (show a.eval (.tmp 231) = .bool false from (hv 29 (by omega) _ rfl _ rfl)))) (execIdxS0 (k := 320) rfl (hv 30 (by omega) _ rfl _ rfl) rfl (by have := F.sz; omega)) ⟨⟨_, rfl, rfl⟩, rfl⟩
    | 32, _ => exact stepV rfl (wantedOf rfl (yieldedAt rfl rfl (show a.eval (.tmp 231) = .bool false from (hv 29 (by omega) _ rfl _ rfl)))) (execLdB rfl (hv 31 (by omega) _ rfl _ rfl) CL.2.2.2.2.1) ⟨⟨_, rfl, rfl⟩, rfl⟩
    | 33, _ => exact stepV rfl (wantedOf rfl (yieldedAt rfl rfl (show a.eval (.tmp 231) = .bool false from (hv 29 (by omega) _ rfl _ rfl)))) (execNeqU rfl (hv 32 (by omega) _ rfl _ rfl)) ⟨⟨_, rfl, rfl⟩, rfl⟩
    | 34, _ => exact stepV rfl rfl (execPick (b := false) rfl (hv 29 (by omega) _ rfl _ rfl) (hv 33 (by omega) _ rfl _ rfl)) ⟨⟨_, rfl, rfl⟩, rfl⟩
    | 35, _ => exact stepV rfl rfl (execMvB rfl (hv 34 (by omega) _ rfl _ rfl)) ⟨⟨_, rfl, rfl⟩, rfl⟩
    | 36, _ => exact stepV rfl (wantedOf rfl (yieldedAt rfl rfl (show a.eval (.tmp 237) = .bool false from (hv 35 (by omega) _ rfl _ rfl)))) (execMvB rfl ((hf 11 (by decide)).trans A.t11)) ⟨⟨_, rfl, rfl⟩, rfl⟩
    | 37, _ => exact stepV rfl (wantedOf rfl (yieldedAt rfl rfl (show a.eval (.tmp 237) = .bool false from (hv 35 (by omega) _ rfl _ rfl)))) (execIdxS0 (k := 321) rfl (hv 36 (by omega) _ rfl _ rfl) rfl (by have := F.sz; omega)) ⟨⟨_, rfl, rfl⟩, rfl⟩
    | 38, _ => exact stepV rfl (wantedOf rfl (yieldedAt rfl rfl (show a.eval (.tmp 237) = .bool false from (hv 35 (by omega) _ rfl _ rfl)))) (execLdB rfl (hv 37 (by omega) _ rfl _ rfl) CL.2.2.2.2.2) ⟨⟨_, rfl, rfl⟩, rfl⟩
    | 39, _ => exact stepV rfl (wantedOf rfl (yieldedAt rfl rfl (show a.eval (.tmp 237) = .bool false from (hv 35 (by omega) _ rfl _ rfl)))) (execNeqU rfl (hv 38 (by omega) _ rfl _ rfl)) ⟨⟨_, rfl, rfl⟩, rfl⟩
    | 40, _ => exact stepV rfl rfl (execPick (b := false) rfl (hv 35 (by omega) _ rfl _ rfl) (hv 39 (by omega) _ rfl _ rfl)) ⟨⟨_, rfl, rfl⟩, rfl⟩
    | k_ + 41, h_ => exact absurd h_ (by simp)
  · intro a2 h1 h2 h3 h4
    refine wp_cond_false (h4 40 _ rfl _ rfl) ?_
    refine wp_skip ?_
    exact h a2 (A.keep h1 h2 h3 (by decide))
end Go.Proofs.YtplhkjkaabgffaaGreatDoor.Oni
