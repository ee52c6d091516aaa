import Derived.Test.YtgmomkkhlcigbaaE9a
namespace Go.Proofs.Ytgmomkkhlcigbaa.Cf
open Go.RowKit Gf8 Aes By8 Cel
/- A region in its order of which only the operations that do something are walked: moves, assignments, picks, extracts, what isn't wanted are reckoned. -/
def lk (E : Nat → Value) : List (Nat × Value) → Nat → Value
 | [], d => E d
 | p :: l, d => bif Nat.beq d p.1 then p.2 else lk E l d
def evO (f : Nat → Value) : Operand → Value
 | .tmp d => f d
 | .const v => v
 | .global g => .pointer (some ⟨g, 0, none⟩)
 | .func g => .func (.func g) #[] #[]
theorem evO_eval {a : Act} {f : Nat → Value} (h : ∀ d, a.eval (.tmp d) = f d) : ∀ x, a.eval x = evO f x
 | .tmp d => h d
 | .const _ => rfl
 | .global _ => rfl
 | .func _ => rfl
def wnt (ops : Array Oper) (f : Nat → Value) (o : Oper) : Option Bool :=
 match o.guard with
 | none => some true
 | some (k, b) =>
  match (ops[k]?).bind (·.dst) with
  | none => none
  | some d =>
   match f d with
   | .bool c => some (c == b)
   | .tuple ⟨[]⟩ => some false
   | _ => none
def eas (ops : Array Oper) (f : Nat → Value) (o : Oper) : Option Value :=
 match wnt ops f o with
 | none => none
 | some false => some undef
 | some true =>
  match o.op with
  | .move x => some (evO f x)
  | .assign x => some (evO f x)
  | .pick c x y =>
   match evO f c with
   | .bool true => some (evO f x)
   | .bool false => some (evO f y)
   | _ => none
  | .extract x k =>
   match evO f x with
   | .tuple arr => arr[k]?
   | _ => none
  | _ => none
def acc (ops : Array Oper) (E v : Nat → Value) : Nat → List (Nat × Value)
 | 0 => []
 | k + 1 =>
  match ops[k]? with
  | none => acc ops E v k
  | some o =>
   match o.dst with
   | none => acc ops E v k
   | some d => (d, (eas ops (lk E (acc ops E v k)) o).getD (v k)) :: acc ops E v k
def vl (ops : Array Oper) (E v : Nat → Value) (k : Nat) : Value :=
 match ops[k]? with
 | none => undef
 | some o => (eas ops (lk E (acc ops E v k)) o).getD (v k)
def hrd (ops : Array Oper) (E v : Nat → Value) (k : Nat) : Bool :=
 match ops[k]? with
 | none => false
 | some o => (eas ops (lk E (acc ops E v k)) o).isNone
def hdL (ops : Array Oper) (E v : Nat → Value) : List Nat := (List.range ops.size).filter (hrd ops E v)
def AllL (P : Nat → Prop) : List Nat → Prop
 | [] => True
 | j :: l => P j ∧ AllL P l
theorem AllL.get {P : Nat → Prop} : ∀ {l : List Nat}, AllL P l → ∀ {j}, j ∈ l → P j
 | [], _, _, h => by cases h
 | i :: l, h, j, hj => by
  rcases List.mem_cons.1 hj with e | e
  ·rw [e]; exact h.1
  ·exact AllL.get h.2 e
def nb (j : Nat) : List Nat → Nat
 | [] => 0
 | i :: l => (bif Nat.blt i j then 1 else 0) + nb j l
theorem nb_zero : ∀ {l : List Nat}, nb 0 l = 0
 | [] => rfl
 | i :: l => by
  unfold nb
  rw [nb_zero, show Nat.blt i 0 = false from rfl]
  rfl
theorem nb_succ {j : Nat} : ∀ {l : List Nat}, j ∉ l → nb (j + 1) l = nb j l
 | [], _ => rfl
 | i :: l, h => by
  have h1 : j ≠ i := fun e => h (by rw [e]; exact List.mem_cons_self ..)
  have h2 : j ∉ l := fun e => h (List.mem_cons_of_mem _ e)
  unfold nb
  rw [nb_succ h2]
  have e : Nat.blt i (j + 1) = Nat.blt i j := by
   rw [Bool.eq_iff_iff]
   constructor
   ·intro q
    have := Nat.le_of_ble_eq_true q
    exact Nat.ble_eq_true_of_le (by omega)
   ·intro q
    have := Nat.le_of_ble_eq_true q
    exact Nat.ble_eq_true_of_le (by omega)
  rw [e]
def ent (a : Act) (d : Nat) : Value := a.eval (.tmp d)
def okD (N : Nat) (ops : Array Oper) : Bool := decide ((dsOf ops).map (·.2)).Nodup && (dsOf ops).all (fun p => decide (p.2 < N))
theorem acc_cg {ops : Array Oper} {E u v : Nat → Value} : ∀ {k : Nat}, (∀ i, i < k → hrd ops E v i = true → u i = v i) → acc ops E u k = acc ops E v k
 | 0, _ => rfl
 | k + 1, h => by
  have ih := acc_cg (k := k) fun i hi => h i (by omega)
  have hk := h k (by omega)
  unfold hrd at hk
  unfold acc
  cases ho : ops[k]? with
  | none => exact ih
  | some o =>
   simp only [ho] at hk ⊢
   cases o.dst with
   | none => exact ih
   | some d =>
    simp only [ih]
    congr 2
    cases he : eas ops (lk E (acc ops E v k)) o with
    | none => rw [he] at hk; exact hk rfl
    | some x => rfl
theorem lk_acc {ops : Array Oper} {E v : Nat → Value} {d : Nat} : ∀ {k : Nat}, (∀ i, i < k → ∀ q, ops[i]? = some q → q.dst ≠ some d) → lk E (acc ops E v k) d = E d
 | 0, _ => rfl
 | k + 1, h => by
  have ih := lk_acc (E := E) (v := v) (k := k) fun i hi => h i (by omega)
  unfold acc
  cases ho : ops[k]? with
  | none => exact ih
  | some o =>
   have h1 := h k (by omega) o ho
   cases hd : o.dst with
   | none => simp only [hd]; exact ih
   | some e =>
    simp only [hd]
    have hne : Nat.beq d e = false := by
     cases hb : Nat.beq d e with
     | false => rfl
     | true => exact absurd (by rw [hd, Nat.eq_of_beq_eq_true hb]) h1
    unfold lk
    simp only [hne, cond_false]
    exact ih
theorem lk_at {ops : Array Oper} {E v : Nat → Value} (hnd : ((dsOf ops).map (·.2)).Nodup) {d i : Nat} {q : Oper} (hq : ops[i]? = some q) (hd : q.dst = some d) : ∀ {k : Nat}, i < k → lk E (acc ops E v k) d = vl ops E v i
 | 0, h => absurd h (Nat.not_lt_zero _)
 | k + 1, h => by
  by_cases e : i = k
  ·subst e
   unfold acc vl
   simp only [hq, hd]
   unfold lk
   simp only [show Nat.beq d d = true from Nat.beq_refl d, cond_true]
  ·have ih := lk_at (E := E) (v := v) hnd hq hd (k := k) (by omega)
   unfold acc
   cases ho : ops[k]? with
   | none => exact ih
   | some o =>
    cases hd2 : o.dst with
    | none => simp only [hd2]; exact ih
    | some e2 =>
     simp only [hd2]
     have hne : Nat.beq d e2 = false := by
      cases hb : Nat.beq d e2 with
      | false => rfl
      | true =>
       have e3 := Nat.eq_of_beq_eq_true hb
       subst e3
       exact absurd (inj2 _ hnd i k d (mem_dsOf.2 ⟨q, hq, hd⟩) (mem_dsOf.2 ⟨o, ho, hd2⟩)) e
     unfold lk
     simp only [hne, cond_false]
     exact ih
theorem wnt_is {ops : Array Oper} {a : Act} {f : Nat → Value} {o : Oper} {b : Bool} (h : ∀ d, a.eval (.tmp d) = f d) (hw : wnt ops f o = some b) : Region.wanted o (yielded ops a.tmps) = b := by
 unfold wnt at hw
 cases hg : o.guard with
 | none =>
  simp only [hg] at hw
  injection hw with hw
  subst hw
  simp [Region.wanted, hg]
 | some p =>
  obtain ⟨k, c⟩ := p
  simp only [hg] at hw
  cases hq : ops[k]? with
  | none => simp [hq] at hw
  | some q =>
   cases hd : q.dst with
   | none => simp [hq, hd] at hw
   | some d =>
    simp only [hq, hd, Option.bind_some] at hw
    cases hf : f d with
    | bool x =>
     rw [hf] at hw
     injection hw with hw
     subst hw
     have hy := yieldedAt hq hd ((h d).trans hf)
     simp only [Region.wanted, hg, hy]
     cases x <;> cases c <;> rfl
    | tuple arr =>
     rw [hf] at hw
     obtain ⟨l⟩ := arr
     cases l with
     | nil =>
      injection hw with hw
      subst hw
      exact unwantedNo hg (yieldedNo hq hd ((h d).trans hf))
     | cons _ _ => cases hw
    | _ => rw [hf] at hw; cases hw
theorem eas_step {ops : Array Oper} {Q : Exit → Act → World → Prop} {K : Act → World → Prop} {j : Nat} {o : Oper} {a : Act} {w : World} {f : Nat → Value} {x : Value} (ho : ops[j]? = some o) (h : ∀ d, a.eval (.tmp d) = f d) (he : eas ops f o = some x) (hK : K (a.put o.dst x) w) : wpOp Try.prog ops Q j K a w := by
 have ev := evO_eval h
 unfold eas at he
 cases hw : wnt ops f o with
 | none => simp [hw] at he
 | some b =>
  have hw2 := wnt_is h hw
  cases b with
  | false =>
   simp only [hw] at he
   injection he with he
   subst he
   exact stepU ho hw2 hK
  | true =>
   simp only [hw] at he
   cases hop : o.op with
   | move y =>
    simp only [hop] at he
    injection he with he
    exact stepV ho hw2 (execMvB hop ((ev y).trans he)) hK
   | assign y =>
    simp only [hop] at he
    injection he with he
    exact stepV ho hw2 (execAsgB hop ((ev y).trans he)) hK
   | pick c y z =>
    simp only [hop] at he
    cases hc : evO f c with
    | bool t =>
     rw [hc] at he
     cases t with
     | true =>
      injection he with he
      exact stepV ho hw2 (execPickT hop ((ev c).trans hc) ((ev y).trans he)) hK
     | false =>
      injection he with he
      exact stepV ho hw2 (execPickF hop ((ev c).trans hc) ((ev z).trans he)) hK
    | _ => rw [hc] at he; cases he
   | extract y k =>
    simp only [hop] at he
    cases hc : evO f y with
    | tuple arr =>
     rw [hc] at he
     exact stepV ho hw2 (execExtT hop ((ev y).trans hc) he) hK
    | _ => rw [hc] at he; cases he
   | _ => simp [hop] at he
theorem wp_se {ops : Array Oper} {Q : Exit → Act → World → Prop} {id : Nat} {a0 : Act} {V : World} {σ : Type} (N : Nat) (hl nl : List Nat) (S : Nat → σ → World → Prop) (v : σ → Nat → Value) (s0 : σ) (A : a0.tmps.size = N ∧ a0.defers = [])
  (h0 : S 0 s0 V)
  (step : AllL (fun j => ∀ s a w, (∀ x, a.eval x = evO (lk (ent a0) (acc ops (ent a0) (v s) j)) x) → S (nb j nl) s w →
   wpOp Try.prog ops Q j (fun a' w' => ∃ s', (∃ o, ops[j]? = some o ∧ a' = a.put o.dst (v s' j)) ∧ S (nb (j + 1) nl) s' w' ∧ AllL (fun i => i < j → v s' i = v s i) hl) a w) hl)
  (fin : ∀ s a w, (a.tmps.size = N ∧ a.defers = []) → (∀ x, a.eval x = evO (lk (ent a0) (acc ops (ent a0) (v s) ops.size)) x) → S (nb ops.size nl) s w → Q .normal a w)
  (hok : okD N ops = true := by kernel_rfl) (hH : ∀ s, hdL ops (ent a0) (v s) = hl := by intro _; kernel_rfl) (hn : nl.all (fun j => hl.contains j) = true := by rfl) : (Code.region id ops false).wp Try.prog Q a0 V := by
 have hok2 := Bool.and_eq_true _ _ ▸ hok
 have hnd : ((dsOf ops).map (·.2)).Nodup := of_decide_eq_true hok2.1
 have hsub : ∀ j, j ∈ nl → j ∈ hl := fun j hj => by simpa using List.all_eq_true.1 hn j hj
 have key : ∀ (s : σ) (a : Act) (j : Nat), (∀ e, e ∉ (dsOf ops).map (·.2) → a.eval (.tmp e) = a0.eval (.tmp e)) → (∀ i, i < j → ∀ q, ops[i]? = some q → ∀ d, q.dst = some d → a.eval (.tmp d) = vl ops (ent a0) (v s) i) → (∀ i, j ≤ i → ∀ q, ops[i]? = some q → ∀ d, q.dst = some d → a.eval (.tmp d) = a0.eval (.tmp d)) →
   ∀ d, a.eval (.tmp d) = lk (ent a0) (acc ops (ent a0) (v s) j) d := fun s a j hf hv hn' d => by
  by_cases hi : ∃ (i : Nat) (q : Oper), ops[i]? = some q ∧ q.dst = some d
  ·obtain ⟨i, q, hq, hd⟩ := hi
   by_cases hij : i < j
   ·rw [lk_at hnd hq hd hij]
    exact hv i hij q hq d hd
   ·rw [lk_acc fun m hm q2 hq2 hd2 => by
     have := inj2 _ hnd i m d (mem_dsOf.2 ⟨q, hq, hd⟩) (mem_dsOf.2 ⟨q2, hq2, hd2⟩)
     omega]
    exact hn' i (by omega) q hq d hd
  ·rw [lk_acc fun m _ q2 hq2 hd2 => hi ⟨m, q2, hq2, hd2⟩]
   refine hf d fun hm => ?_
   obtain ⟨⟨i, d2⟩, hp, e⟩ := List.mem_map.1 hm
   obtain ⟨q, hq, hd⟩ := mem_dsOf.1 hp
   exact hi ⟨i, q, hq, by rw [hd]; exact congrArg some e⟩
 refine wp_region_sq (σ := σ) N (dsOf ops) (fun j s w => S (nb j nl) s w) (fun s j => vl ops (ent a0) (v s) j) s0 A.1 rfl hnd hok2.2 ?_ ?_ ?_
 ·show S (nb 0 nl) s0 V
  rw [nb_zero]
  exact h0
 ·intro j hj s a w hf hv hn' hS
  have ek := key s a j hf hv hn'
  obtain ⟨o, ho⟩ : ∃ o, ops[j]? = some o := ⟨ops[j], Array.getElem?_eq_getElem hj⟩
  cases he : eas ops (lk (ent a0) (acc ops (ent a0) (v s) j)) o with
  | some x =>
   have hnj : j ∉ nl := fun q => by
    have h1 := hsub j q
    rw [← hH s] at h1
    have h2 := (List.mem_filter.1 h1).2
    unfold hrd at h2
    simp [ho, he] at h2
   refine eas_step ho ek he ⟨s, ⟨o, ho, ?_⟩, ?_, fun _ _ => rfl⟩
   ·show a.put o.dst x = a.put o.dst (vl ops (ent a0) (v s) j)
    unfold vl
    simp only [ho, he, Option.getD_some]
   ·show S (nb (j + 1) nl) s w
    rw [nb_succ hnj]
    exact hS
  | none =>
   have hh : hrd ops (ent a0) (v s) j = true := by
    unfold hrd
    simp [ho, he]
   have hjl : j ∈ hl := by
    rw [← hH s]
    exact List.mem_filter.2 ⟨List.mem_range.2 hj, hh⟩
   refine wpOp_mono ?_ (step.get hjl s a w (evO_eval ek) hS)
   rintro a' w' ⟨s', ⟨o', ho', rfl⟩, hS', hal⟩
   have hcg : ∀ k, k ≤ j → acc ops (ent a0) (v s') k = acc ops (ent a0) (v s) k := fun k hk => acc_cg fun i hi hri => by
    have hil : i ∈ hl := by
     rw [← hH s]
     exact List.mem_filter.2 ⟨List.mem_range.2 (by omega), hri⟩
    exact hal.get hil (by omega)
   rw [ho] at ho'
   cases ho'
   refine ⟨s', ⟨o, ho, ?_⟩, hS', fun i hi => ?_⟩
   ·show a.put o.dst (v s' j) = a.put o.dst (vl ops (ent a0) (v s') j)
    unfold vl
    simp only [ho, hcg j (Nat.le_refl _), he, Option.getD_none]
   ·show vl ops (ent a0) (v s') i = vl ops (ent a0) (v s) i
    unfold vl
    cases hoi : ops[i]? with
    | none => rfl
    | some q =>
     simp only [hcg i (by omega)]
     cases hei : eas ops (lk (ent a0) (acc ops (ent a0) (v s) i)) q with
     | some x => rfl
     | none =>
      have hil : i ∈ hl := by
       rw [← hH s]
       refine List.mem_filter.2 ⟨List.mem_range.2 (by omega), ?_⟩
       unfold hrd
       simp [hoi, hei]
      exact hal.get hil hi
 ·intro s a w h1 h2 h3 h4 hS
  exact fin s a w ⟨h1, h2.trans A.2⟩ (evO_eval (key s a ops.size h3 (fun i _ q hq d hd => h4 i q hq d hd) (fun i hi q hq => absurd (Array.getElem?_eq_some_iff.1 hq).1 (by omega)))) hS
theorem kt {a a0 : Act} {f : Operand → Value} {d : Nat} {v : Value} (e : ∀ x, a.eval x = f x) (t : a0.eval (.tmp d) = v) (h : f (.tmp d) = a0.eval (.tmp d) := by rfl) : a.eval (.tmp d) = v := (e _).trans (h.trans t)
theorem allrfl {P : Nat → Prop} {hl : List Nat} (h : ∀ i, P i) : AllL P hl := by
 induction hl with
 | nil => trivial
 | cons i l ih => exact ⟨h i, ih⟩
theorem ar {α : Type} {j : Nat} {u : Nat → α} {hl : List Nat} : AllL (fun i => i < j → u i = u i) hl := allrfl fun _ _ => rfl
theorem wy {ops : Array Oper} {o q : Oper} {a : Act} {k d : Nat} {b : Bool} (hg : o.guard = some (k, b)) (hq : ops[k]? = some q) (hd : q.dst = some d) (hv : a.eval (.tmp d) = .bool b) : Region.wanted o (yielded ops a.tmps) = true := wantedOf hg (yieldedAt hq hd hv)
end Go.Proofs.Ytgmomkkhlcigbaa.Cf
