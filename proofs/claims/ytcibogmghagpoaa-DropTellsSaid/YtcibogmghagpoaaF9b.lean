import Derived.Test.YtcibogmghagpoaaF9a
namespace Go.Proofs.Ytcibogmghagpoaa.Cf
open Go.RowKit Gf8 Aes By8 Cel
/- A region in its order, walked from one operation that does something to the next; the slots that are known are a list, and all that only moves values is reckoned. -/

def vL (l : List (Nat × Value)) : Nat → Value := lk (fun _ => undef) l
/-- What slots hold, one by one. -/
def Hd (a : Act) : List (Nat × Value) → Prop
  | [] => True
  | (d, v) :: l => a.eval (.tmp d) = v ∧ Hd a l
/-- The slots that are known. -/
def Fr (a : Act) (l : List (Nat × Value)) : Prop := ∀ d, a.eval (.tmp d) = lk (ent a) l d
theorem f0 {a : Act} : Fr a [] := fun _ => rfl
theorem fc {a : Act} {d : Nat} {v : Value} {l : List (Nat × Value)} (t : a.eval (.tmp d) = v) (h : Fr a l) : Fr a ((d, v) :: l) := fun e => by
  unfold lk
  cases hb : Nat.beq e d with
  | true =>
    rw [Nat.eq_of_beq_eq_true hb]
    exact t
  | false => exact h e
theorem Hd.fr {a : Act} : ∀ {l : List (Nat × Value)}, Hd a l → Fr a l
  | [], _ => f0
  | (_, _) :: _, h => fc h.1 (Hd.fr h.2)
theorem hd_of {a : Act} {f : Nat → Value} (h : ∀ d, a.eval (.tmp d) = f d) : ∀ (l : List (Nat × Value)), l.map (fun p => f p.1) = l.map (·.2) → Hd a l
  | [], _ => trivial
  | (d, _) :: l, e => by
    injection e with e1 e2
    exact ⟨(h d).trans e1, hd_of h l e2⟩
def opA (ops : Array Oper) (k : Nat) : Oper := (ops[k]?).getD default
/-- All operations from j on, so many, are reckoned. -/
def eaR (ops : Array Oper) (E v : Nat → Value) (j : Nat) : Nat → Bool
  | 0 => true
  | m + 1 => (eas ops (lk E (acc ops E v j)) (opA ops j)).isSome && eaR ops E v (j + 1) m
def skp (ops : Array Oper) (E v : Nat → Value) (j k : Nat) : Bool := Nat.ble j k && Nat.blt k ops.size && eaR ops E v j (k - j) && (eas ops (lk E (acc ops E v k)) (opA ops k)).isNone
def okN (N : Nat) (ops : Array Oper) : Bool := ops.all fun o => match o.dst with | none => true | some d => Nat.blt d N
/-- What is left of a region from operation j on. -/
def Rest (ops : Array Oper) (Q : Exit → Act → World → Prop) (N : Nat) (D : List Deferred) (E : Nat → Value) (j : Nat) (vs : List (Nat × Value)) (W : World) : Prop :=
  okN N ops = true → ∀ a : Act, (a.tmps.size = N ∧ a.defers = D) → (∀ d, a.eval (.tmp d) = lk E (acc ops E (vL vs) j) d) → wpList Try.prog ops Q (ops.toList.drop j) a W
section
variable {ops : Array Oper} {Q : Exit → Act → World → Prop} {N : Nat} {D : List Deferred} {E : Nat → Value} {j : Nat} {vs : List (Nat × Value)} {W : World} {id : Nat}
theorem opA_of {k : Nat} (h : k < ops.size) : ops[k]? = some (opA ops k) := by
  unfold opA
  rw [Array.getElem?_eq_getElem h]
  rfl
theorem drop_at {k : Nat} {o : Oper} (h : ops[k]? = some o) : ops.toList.drop k = o :: ops.toList.drop (k + 1) := by
  obtain ⟨hl, rfl⟩ := Array.getElem?_eq_some_iff.1 h
  have h2 : k < ops.toList.length := by simpa using hl
  rw [List.drop_eq_getElem_cons h2]
  simp
theorem okN_at {k d : Nat} {o : Oper} (h : okN N ops = true) (ho : ops[k]? = some o) (hd : o.dst = some d) : d < N := by
  obtain ⟨hl, rfl⟩ := Array.getElem?_eq_some_iff.1 ho
  have h1 := (Array.all_eq_true.1 h) k hl
  rw [hd] at h1
  exact Nat.le_of_ble_eq_true h1
/-- One operation on. -/
theorem put_on {a : Act} {k : Nat} {o : Oper} {v v' : Nat → Value} {x : Value} (hN : okN N ops = true) (A : a.tmps.size = N ∧ a.defers = D) (ho : ops[k]? = some o) (h : ∀ d, a.eval (.tmp d) = lk E (acc ops E v k) d) (hc : acc ops E v' k = acc ops E v k) (hx : (eas ops (lk E (acc ops E v k)) o).getD (v' k) = x) :
    ((a.put o.dst x).tmps.size = N ∧ (a.put o.dst x).defers = D) ∧ ∀ d, (a.put o.dst x).eval (.tmp d) = lk E (acc ops E v' (k + 1)) d := by
  refine ⟨⟨by rw [put_size]; exact A.1, ?_⟩, fun d => ?_⟩
  · rw [← A.2]
    cases o.dst <;> rfl
  · unfold acc
    rw [ho]
    simp only
    cases hd : o.dst with
    | none =>
      simp only [hc]
      exact h d
    | some e =>
      simp only [hc, hx]
      unfold lk
      cases hb : Nat.beq d e with
      | true =>
        rw [Nat.eq_of_beq_eq_true hb, put_same _ _ (by rw [A.1]; exact okN_at hN ho hd)]
        rfl
      | false =>
        rw [put_other _ _ (fun q => by rw [q, Nat.beq_refl] at hb; cases hb)]
        exact h d
theorem rest_on {m : Nat} (e : eaR ops E (vL vs) j m = true) (hk : j + m ≤ ops.size) (h : Rest ops Q N D E (j + m) vs W) : Rest ops Q N D E j vs W := by
  induction m generalizing j with
  | zero => exact h
  | succ m ih =>
    unfold eaR at e
    rw [Bool.and_eq_true] at e
    have h2 := ih (j := j + 1) e.2 (by omega) (by rw [show j + 1 + m = j + (m + 1) by omega]; exact h)
    intro hN a A hv
    have ho := opA_of (ops := ops) (k := j) (by omega)
    rw [drop_at ho]
    obtain ⟨x, hx⟩ := Option.isSome_iff_exists.1 e.1
    refine wpList_of_op ho (eas_step ho hv hx ?_)
    obtain ⟨A', hv'⟩ := put_on (x := x) (v' := vL vs) hN A ho hv rfl (by rw [hx]; rfl)
    exact h2 hN _ A' hv'
/-- An operation that does something. -/
theorem rs_ (k : Nat) (h : ∀ a : Act, (∀ x, a.eval x = evO (lk E (acc ops E (vL vs) k)) x) → wpOp Try.prog ops Q k (fun a' w' => ∃ v, (∃ o, ops[k]? = some o ∧ a' = a.put o.dst v) ∧ ∀ X, X = w' → Rest ops Q N D E (k + 1) ((k, v) :: vs) X) a W) (hk : skp ops E (vL vs) j k = true := by kernel_rfl) : Rest ops Q N D E j vs W := by
  unfold skp at hk
  simp only [Bool.and_eq_true] at hk
  obtain ⟨⟨⟨h1, h2⟩, h3⟩, h4⟩ := hk
  have h1' := Nat.le_of_ble_eq_true h1
  have h2' : k < ops.size := Nat.le_of_ble_eq_true h2
  refine rest_on h3 (by omega) ?_
  rw [show j + (k - j) = k by omega]
  intro hN a A hv
  have ho := opA_of h2'
  rw [drop_at ho]
  refine wpList_of_op ho (wpOp_mono ?_ (h a (evO_eval hv)))
  rintro a' w' ⟨v, ⟨o, ho', rfl⟩, hR⟩
  rw [ho] at ho'
  cases ho'
  have hcg : acc ops E (vL ((k, v) :: vs)) k = acc ops E (vL vs) k := acc_cg fun i hi _ => by
    show lk (fun _ => undef) ((k, v) :: vs) i = _
    unfold lk
    rw [show Nat.beq i k = false from by
      cases hb : Nat.beq i k with
      | false => rfl
      | true => have := Nat.eq_of_beq_eq_true hb; omega]
    rfl
  have hkk : vL ((k, v) :: vs) k = v := by
    show lk (fun _ => undef) ((k, v) :: vs) k = v
    unfold lk
    rw [Nat.beq_refl]
    rfl
  obtain ⟨A', hv'⟩ := put_on (x := v) (v' := vL ((k, v) :: vs)) hN A ho hv hcg (by rw [Option.isNone_iff_eq_none.1 h4, Option.getD_none, hkk])
  exact hR _ rfl hN _ A' hv'
/-- An operation that yields a value and leaves the world. -/
theorem rv_ (k : Nat) (v : Value) (h : ∀ a : Act, (∀ x, a.eval x = evO (lk E (acc ops E (vL vs) k)) x) → (execOp a.eval (opA ops k)).run Try.prog W = .ok (.value v) W) (n : Rest ops Q N D E (k + 1) ((k, v) :: vs) W) (hk : skp ops E (vL vs) j k = true := by kernel_rfl) (hw : wnt ops (lk E (acc ops E (vL vs) k)) (opA ops k) = some true := by kernel_rfl) : Rest ops Q N D E j vs W := by
  refine rs_ k (fun a e => ?_) hk
  unfold skp at hk
  simp only [Bool.and_eq_true] at hk
  have ho := opA_of (ops := ops) (k := k) (Nat.le_of_ble_eq_true hk.1.1.2)
  exact stepV ho (wnt_is (fun d => e (.tmp d)) hw) (h a e) ⟨v, ⟨_, ho, rfl⟩, fun X eX => by rw [eX]; exact n⟩
def fnA (ops : Array Oper) (k : Nat) : FuncId :=
  match (opA ops k).op with
  | .call c => match c.callee with
    | .value (.func f) => f
    | _ => 0
  | _ => 0
def agA (ops : Array Oper) (f : Nat → Value) (k : Nat) : Array Value :=
  match (opA ops k).op with
  | .call c => ⟨c.args.toList.map (evO f)⟩
  | _ => #[]
def clA (P : Program) (ops : Array Oper) (k : Nat) : Bool :=
  match (opA ops k).op with
  | .call c => match c.callee with
    | .value (.func f) => match P.funcs[f]? with
      | some fn => !(fn.name == "runtime.NumGoroutine") && fn.body.isSome
      | none => false
    | _ => false
  | _ => false
/-- A call, by its contract. -/
theorem rc_ (k : Nat) {post : Ending → World → Prop} (c : Calls Try.prog (fnA ops k) (agA ops (lk E (acc ops E (vL vs) k)) k) W post) (n : ∀ e w', post e w' → ∃ v, e = .returned v ∧ Rest ops Q N D E (k + 1) ((k, v) :: vs) w') (hk : skp ops E (vL vs) j k = true := by kernel_rfl) (hw : wnt ops (lk E (acc ops E (vL vs) k)) (opA ops k) = some true := by kernel_rfl) (hc : clA Try.prog ops k = true := by kernel_rfl) : Rest ops Q N D E j vs W := by
  refine rs_ k (fun a e => ?_) hk
  unfold skp at hk
  simp only [Bool.and_eq_true] at hk
  have ho := opA_of (ops := ops) (k := k) (Nat.le_of_ble_eq_true hk.1.1.2)
  unfold clA at hc
  unfold fnA agA at c
  cases hop : (opA ops k).op with
  | call cl =>
    simp only [hop] at hc c
    obtain ⟨cal, xs, ts⟩ := cl
    simp only at hc c
    cases cal with
    | value x =>
      cases x with
      | func f =>
        simp only at hc c
        cases hf : Try.prog.funcs[f]? with
        | none => simp [hf] at hc
        | some fn =>
          simp only [hf, Bool.and_eq_true, Bool.not_eq_true'] at hc
          have hr := execCall (a := a) (w := W) hop hf hc.1 hc.2
          have he : xs.map a.eval = ⟨xs.toList.map (evO (lk E (acc ops E (vL vs) k)))⟩ := by
            apply Array.ext'
            simp only [Array.toList_map]
            exact List.map_congr_left fun x _ => e x
          rw [he] at hr
          refine stepC ho (wnt_is (fun d => e (.tmp d)) hw) hr c fun e' w' hp => ?_
          obtain ⟨v, rfl, hR⟩ := n e' w' hp
          exact ⟨v, rfl, v, ⟨_, ho, rfl⟩, fun X eX => by rw [eX]; exact hR⟩
      | _ => simp at hc
    | _ => simp at hc
  | _ => simp [hop] at hc
theorem cb_ {v : Value} {R : Value → World → Prop} (h : ∀ X, Below W.heap.size W X → R v X) : ∀ (e : Ending) w', (e = .returned v ∧ Below W.heap.size W w') → ∃ v', e = .returned v' ∧ R v' w' := fun _ _ ⟨h1, h2⟩ => ⟨v, h1, h _ h2⟩
theorem eqw {R : World → Prop} (h : R W) : ∀ X, X = W → R X := fun _ e => by rw [e]; exact h
/-- The region's end: what is new, what stays. -/
theorem rf_ {a0 : Act} {l : List (Nat × Value)} (new : List (Nat × Value)) (_old : Hd a0 l) (h : ∀ a : Act, (a.tmps.size = N ∧ a.defers = D) → Hd a new → Hd a l → Q .normal a W) (hk : (Nat.ble j ops.size && eaR ops E (vL vs) j (ops.size - j)) = true := by kernel_rfl)
    (h1 : new.map (fun p => lk E (acc ops E (vL vs) ops.size) p.1) = new.map (·.2) := by kernel_rfl) (h2 : l.map (fun p => lk E (acc ops E (vL vs) ops.size) p.1) = l.map (·.2) := by kernel_rfl) : Rest ops Q N D E j vs W := by
  rw [Bool.and_eq_true] at hk
  have hj := Nat.le_of_ble_eq_true hk.1
  refine rest_on hk.2 (by omega) ?_
  rw [show j + (ops.size - j) = ops.size by omega]
  intro hN a A hv
  rw [List.drop_eq_nil_of_le (by simp)]
  exact h a A (hd_of hv new h1) (hd_of hv l h2)
theorem rg_ (new : List (Nat × Value)) (h : ∀ a : Act, (a.tmps.size = N ∧ a.defers = D) → Hd a new → Q .normal a W) (hk : (Nat.ble j ops.size && eaR ops E (vL vs) j (ops.size - j)) = true := by kernel_rfl)
    (h1 : new.map (fun p => lk E (acc ops E (vL vs) ops.size) p.1) = new.map (·.2) := by kernel_rfl) : Rest ops Q N D E j vs W := by
  rw [Bool.and_eq_true] at hk
  have hj := Nat.le_of_ble_eq_true hk.1
  refine rest_on hk.2 (by omega) ?_
  rw [show j + (ops.size - j) = ops.size by omega]
  intro hN a A hv
  rw [List.drop_eq_nil_of_le (by simp)]
  exact h a A (hd_of hv new h1)
/-- A region in its order. -/
theorem wi_ {a0 : Act} {l : List (Nat × Value)} (A : a0.tmps.size = N ∧ a0.defers = D) (F : Hd a0 l) (h : Rest ops Q N D (lk (ent a0) l) 0 [] W) (hN : okN N ops = true := by kernel_rfl) : (Code.region id ops false).wp Try.prog Q a0 W :=
  wp_region_list (h hN a0 A F.fr)
/-- The frame closed at the entry. -/
theorem wo_ {c : Code} {a0 : Act} (N : Nat) (l : List (Nat × Value)) (h : ∀ a : Act, (a.tmps.size = N ∧ a.defers = []) → Hd a l → c.wp Try.prog Q a W) (h1 : a0.tmps.size = N := by rfl) (h2 : a0.defers = [] := by rfl) (h3 : l.map (fun p => a0.eval (.tmp p.1)) = l.map (·.2) := by rfl) : c.wp Try.prog Q a0 W :=
  h a0 ⟨h1, h2⟩ (hd_of (f := fun d => a0.eval (.tmp d)) (fun _ => rfl) l h3)
end
section
variable {a : Act} {d1 d2 d3 d4 d5 d6 d7 d8 d9 d10 d11 d12 d13 d14 d15 d16 : Nat} {v1 v2 v3 v4 v5 v6 v7 v8 v9 v10 v11 v12 v13 v14 v15 v16 : Value}
theorem h0_ : Hd a [] := trivial
theorem h1_ (t1 : a.eval (.tmp d1) = v1) : Hd a [(d1, v1)] := ⟨t1, trivial⟩
theorem h2_ (t1 : a.eval (.tmp d1) = v1) (t2 : a.eval (.tmp d2) = v2) : Hd a [(d1, v1), (d2, v2)] := ⟨t1, t2, trivial⟩
theorem h3_ (t1 : a.eval (.tmp d1) = v1) (t2 : a.eval (.tmp d2) = v2) (t3 : a.eval (.tmp d3) = v3) : Hd a [(d1, v1), (d2, v2), (d3, v3)] := ⟨t1, t2, t3, trivial⟩
theorem h4_ (t1 : a.eval (.tmp d1) = v1) (t2 : a.eval (.tmp d2) = v2) (t3 : a.eval (.tmp d3) = v3) (t4 : a.eval (.tmp d4) = v4) : Hd a [(d1, v1), (d2, v2), (d3, v3), (d4, v4)] := ⟨t1, t2, t3, t4, trivial⟩
theorem h5_ (t1 : a.eval (.tmp d1) = v1) (t2 : a.eval (.tmp d2) = v2) (t3 : a.eval (.tmp d3) = v3) (t4 : a.eval (.tmp d4) = v4) (t5 : a.eval (.tmp d5) = v5) : Hd a [(d1, v1), (d2, v2), (d3, v3), (d4, v4), (d5, v5)] := ⟨t1, t2, t3, t4, t5, trivial⟩
theorem h6_ (t1 : a.eval (.tmp d1) = v1) (t2 : a.eval (.tmp d2) = v2) (t3 : a.eval (.tmp d3) = v3) (t4 : a.eval (.tmp d4) = v4) (t5 : a.eval (.tmp d5) = v5) (t6 : a.eval (.tmp d6) = v6) : Hd a [(d1, v1), (d2, v2), (d3, v3), (d4, v4), (d5, v5), (d6, v6)] := ⟨t1, t2, t3, t4, t5, t6, trivial⟩
theorem h8_ (t1 : a.eval (.tmp d1) = v1) (t2 : a.eval (.tmp d2) = v2) (t3 : a.eval (.tmp d3) = v3) (t4 : a.eval (.tmp d4) = v4) (t5 : a.eval (.tmp d5) = v5) (t6 : a.eval (.tmp d6) = v6) (t7 : a.eval (.tmp d7) = v7) (t8 : a.eval (.tmp d8) = v8) : Hd a [(d1, v1), (d2, v2), (d3, v3), (d4, v4), (d5, v5), (d6, v6), (d7, v7), (d8, v8)] := ⟨t1, t2, t3, t4, t5, t6, t7, t8, trivial⟩
theorem h9_ (t1 : a.eval (.tmp d1) = v1) (t2 : a.eval (.tmp d2) = v2) (t3 : a.eval (.tmp d3) = v3) (t4 : a.eval (.tmp d4) = v4) (t5 : a.eval (.tmp d5) = v5) (t6 : a.eval (.tmp d6) = v6) (t7 : a.eval (.tmp d7) = v7) (t8 : a.eval (.tmp d8) = v8) (t9 : a.eval (.tmp d9) = v9) : Hd a [(d1, v1), (d2, v2), (d3, v3), (d4, v4), (d5, v5), (d6, v6), (d7, v7), (d8, v8), (d9, v9)] := ⟨t1, t2, t3, t4, t5, t6, t7, t8, t9, trivial⟩
theorem h10_ (t1 : a.eval (.tmp d1) = v1) (t2 : a.eval (.tmp d2) = v2) (t3 : a.eval (.tmp d3) = v3) (t4 : a.eval (.tmp d4) = v4) (t5 : a.eval (.tmp d5) = v5) (t6 : a.eval (.tmp d6) = v6) (t7 : a.eval (.tmp d7) = v7) (t8 : a.eval (.tmp d8) = v8) (t9 : a.eval (.tmp d9) = v9) (t10 : a.eval (.tmp d10) = v10) : Hd a [(d1, v1), (d2, v2), (d3, v3), (d4, v4), (d5, v5), (d6, v6), (d7, v7), (d8, v8), (d9, v9), (d10, v10)] := ⟨t1, t2, t3, t4, t5, t6, t7, t8, t9, t10, trivial⟩
theorem h11_ (t1 : a.eval (.tmp d1) = v1) (t2 : a.eval (.tmp d2) = v2) (t3 : a.eval (.tmp d3) = v3) (t4 : a.eval (.tmp d4) = v4) (t5 : a.eval (.tmp d5) = v5) (t6 : a.eval (.tmp d6) = v6) (t7 : a.eval (.tmp d7) = v7) (t8 : a.eval (.tmp d8) = v8) (t9 : a.eval (.tmp d9) = v9) (t10 : a.eval (.tmp d10) = v10) (t11 : a.eval (.tmp d11) = v11) : Hd a [(d1, v1), (d2, v2), (d3, v3), (d4, v4), (d5, v5), (d6, v6), (d7, v7), (d8, v8), (d9, v9), (d10, v10), (d11, v11)] := ⟨t1, t2, t3, t4, t5, t6, t7, t8, t9, t10, t11, trivial⟩
theorem h12_ (t1 : a.eval (.tmp d1) = v1) (t2 : a.eval (.tmp d2) = v2) (t3 : a.eval (.tmp d3) = v3) (t4 : a.eval (.tmp d4) = v4) (t5 : a.eval (.tmp d5) = v5) (t6 : a.eval (.tmp d6) = v6) (t7 : a.eval (.tmp d7) = v7) (t8 : a.eval (.tmp d8) = v8) (t9 : a.eval (.tmp d9) = v9) (t10 : a.eval (.tmp d10) = v10) (t11 : a.eval (.tmp d11) = v11) (t12 : a.eval (.tmp d12) = v12) : Hd a [(d1, v1), (d2, v2), (d3, v3), (d4, v4), (d5, v5), (d6, v6), (d7, v7), (d8, v8), (d9, v9), (d10, v10), (d11, v11), (d12, v12)] := ⟨t1, t2, t3, t4, t5, t6, t7, t8, t9, t10, t11, t12, trivial⟩
theorem h13_ (t1 : a.eval (.tmp d1) = v1) (t2 : a.eval (.tmp d2) = v2) (t3 : a.eval (.tmp d3) = v3) (t4 : a.eval (.tmp d4) = v4) (t5 : a.eval (.tmp d5) = v5) (t6 : a.eval (.tmp d6) = v6) (t7 : a.eval (.tmp d7) = v7) (t8 : a.eval (.tmp d8) = v8) (t9 : a.eval (.tmp d9) = v9) (t10 : a.eval (.tmp d10) = v10) (t11 : a.eval (.tmp d11) = v11) (t12 : a.eval (.tmp d12) = v12) (t13 : a.eval (.tmp d13) = v13) : Hd a [(d1, v1), (d2, v2), (d3, v3), (d4, v4), (d5, v5), (d6, v6), (d7, v7), (d8, v8), (d9, v9), (d10, v10), (d11, v11), (d12, v12), (d13, v13)] := ⟨t1, t2, t3, t4, t5, t6, t7, t8, t9, t10, t11, t12, t13, trivial⟩
theorem h14_ (t1 : a.eval (.tmp d1) = v1) (t2 : a.eval (.tmp d2) = v2) (t3 : a.eval (.tmp d3) = v3) (t4 : a.eval (.tmp d4) = v4) (t5 : a.eval (.tmp d5) = v5) (t6 : a.eval (.tmp d6) = v6) (t7 : a.eval (.tmp d7) = v7) (t8 : a.eval (.tmp d8) = v8) (t9 : a.eval (.tmp d9) = v9) (t10 : a.eval (.tmp d10) = v10) (t11 : a.eval (.tmp d11) = v11) (t12 : a.eval (.tmp d12) = v12) (t13 : a.eval (.tmp d13) = v13) (t14 : a.eval (.tmp d14) = v14) : Hd a [(d1, v1), (d2, v2), (d3, v3), (d4, v4), (d5, v5), (d6, v6), (d7, v7), (d8, v8), (d9, v9), (d10, v10), (d11, v11), (d12, v12), (d13, v13), (d14, v14)] := ⟨t1, t2, t3, t4, t5, t6, t7, t8, t9, t10, t11, t12, t13, t14, trivial⟩
theorem h15_ (t1 : a.eval (.tmp d1) = v1) (t2 : a.eval (.tmp d2) = v2) (t3 : a.eval (.tmp d3) = v3) (t4 : a.eval (.tmp d4) = v4) (t5 : a.eval (.tmp d5) = v5) (t6 : a.eval (.tmp d6) = v6) (t7 : a.eval (.tmp d7) = v7) (t8 : a.eval (.tmp d8) = v8) (t9 : a.eval (.tmp d9) = v9) (t10 : a.eval (.tmp d10) = v10) (t11 : a.eval (.tmp d11) = v11) (t12 : a.eval (.tmp d12) = v12) (t13 : a.eval (.tmp d13) = v13) (t14 : a.eval (.tmp d14) = v14) (t15 : a.eval (.tmp d15) = v15) : Hd a [(d1, v1), (d2, v2), (d3, v3), (d4, v4), (d5, v5), (d6, v6), (d7, v7), (d8, v8), (d9, v9), (d10, v10), (d11, v11), (d12, v12), (d13, v13), (d14, v14), (d15, v15)] := ⟨t1, t2, t3, t4, t5, t6, t7, t8, t9, t10, t11, t12, t13, t14, t15, trivial⟩
theorem h16_ (t1 : a.eval (.tmp d1) = v1) (t2 : a.eval (.tmp d2) = v2) (t3 : a.eval (.tmp d3) = v3) (t4 : a.eval (.tmp d4) = v4) (t5 : a.eval (.tmp d5) = v5) (t6 : a.eval (.tmp d6) = v6) (t7 : a.eval (.tmp d7) = v7) (t8 : a.eval (.tmp d8) = v8) (t9 : a.eval (.tmp d9) = v9) (t10 : a.eval (.tmp d10) = v10) (t11 : a.eval (.tmp d11) = v11) (t12 : a.eval (.tmp d12) = v12) (t13 : a.eval (.tmp d13) = v13) (t14 : a.eval (.tmp d14) = v14) (t15 : a.eval (.tmp d15) = v15) (t16 : a.eval (.tmp d16) = v16) : Hd a [(d1, v1), (d2, v2), (d3, v3), (d4, v4), (d5, v5), (d6, v6), (d7, v7), (d8, v8), (d9, v9), (d10, v10), (d11, v11), (d12, v12), (d13, v13), (d14, v14), (d15, v15), (d16, v16)] := ⟨t1, t2, t3, t4, t5, t6, t7, t8, t9, t10, t11, t12, t13, t14, t15, t16, trivial⟩
end
end Go.Proofs.Ytcibogmghagpoaa.Cf
