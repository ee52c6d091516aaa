import Derived.Test.YtcibogmghagpoaaE9a
namespace Go.Proofs.Ytcibogmghagpoaa.Cf
open Go.RowKit Gf8 Aes By8 Cel
/- A region in its order of which only the operations that do something are walked: moves, assignments, picks, extracts, what isn't wanted are reckoned. -/

def lk (E : Nat → Value) : List (Nat × Value) → Nat → Value
  | [], d => E d
  | p :: l, d => bif Nat.beq d p.1 then p.2 else lk E l d
def evO (f : Nat → Value) : Operand → Value
  | .tmp d => f d
  | .const v => v
  | .global g => .pointer (some ⟨g, 0, none⟩)
  | .func g => .func (.func g) #[] #[]
theorem evO_eval {a : Act} {f : Nat → Value} (h : ∀ d, a.eval (.tmp d) = f d) : ∀ x, a.eval x = evO f x
  | .tmp d => h d
  | .const _ => rfl
  | .global _ => rfl
  | .func _ => rfl
/-- Whether it is wanted, where that can be told. -/
def wnt (ops : Array Oper) (f : Nat → Value) (o : Oper) : Option Bool :=
  match o.guard with
  | none => some true
  | some (k, b) =>
    match (ops[k]?).bind (·.dst) with
    | none => none
    | some d =>
      match f d with
      | .bool c => some (c == b)
      | .tuple ⟨[]⟩ => some false
      | _ => none
/-- What an operation yields that does nothing else. -/
def eas (ops : Array Oper) (f : Nat → Value) (o : Oper) : Option Value :=
  match wnt ops f o with
  | none => none
  | some false => some undef
  | some true =>
    match o.op with
    | .move x => some (evO f x)
    | .assign x => some (evO f x)
    | .pick c x y =>
      match evO f c with
      | .bool true => some (evO f x)
      | .bool false => some (evO f y)
      | _ => none
    | .extract x k =>
      match evO f x with
      | .tuple arr => arr[k]?
      | _ => none
    | _ => none
def acc (ops : Array Oper) (E v : Nat → Value) : Nat → List (Nat × Value)
  | 0 => []
  | k + 1 =>
    match ops[k]? with
    | none => acc ops E v k
    | some o =>
      match o.dst with
      | none => acc ops E v k
      | some d => (d, (eas ops (lk E (acc ops E v k)) o).getD (v k)) :: acc ops E v k
/-- What operation k yields. -/
def vl (ops : Array Oper) (E v : Nat → Value) (k : Nat) : Value :=
  match ops[k]? with
  | none => undef
  | some o => (eas ops (lk E (acc ops E v k)) o).getD (v k)
def hrd (ops : Array Oper) (E v : Nat → Value) (k : Nat) : Bool :=
  match ops[k]? with
  | none => false
  | some o => (eas ops (lk E (acc ops E v k)) o).isNone
def ent (a : Act) (d : Nat) : Value := a.eval (.tmp d)
def okD (N : Nat) (ops : Array Oper) : Bool := decide ((dsOf ops).map (·.2)).Nodup && (dsOf ops).all (fun p => decide (p.2 < N))
theorem acc_cg {ops : Array Oper} {E u v : Nat → Value} : ∀ {k : Nat}, (∀ i, i < k → hrd ops E v i = true → u i = v i) → acc ops E u k = acc ops E v k
  | 0, _ => rfl
  | k + 1, h => by
    have ih := acc_cg (k := k) fun i hi => h i (by omega)
    have hk := h k (by omega)
    unfold hrd at hk
    unfold acc
    cases ho : ops[k]? with
    | none => exact ih
    | some o =>
      simp only [ho] at hk ⊢
      cases o.dst with
      | none => exact ih
      | some d =>
        simp only [ih]
        congr 2
        cases he : eas ops (lk E (acc ops E v k)) o with
        | none => rw [he] at hk; exact hk rfl
        | some x => rfl
theorem wnt_is {ops : Array Oper} {a : Act} {f : Nat → Value} {o : Oper} {b : Bool} (h : ∀ d, a.eval (.tmp d) = f d) (hw : wnt ops f o = some b) : Region.wanted o (yielded ops a.tmps) = b := by
  unfold wnt at hw
  cases hg : o.guard with
  | none =>
    simp only [hg] at hw
    injection hw with hw
    subst hw
    simp [Region.wanted, hg]
  | some p =>
    obtain ⟨k, c⟩ := p
    simp only [hg] at hw
    cases hq : ops[k]? with
    | none => simp [hq] at hw
    | some q =>
      cases hd : q.dst with
      | none => simp [hq, hd] at hw
      | some d =>
        simp only [hq, hd, Option.bind_some] at hw
        cases hf : f d with
        | bool x =>
          rw [hf] at hw
          injection hw with hw
          subst hw
          have hy := yieldedAt hq hd ((h d).trans hf)
          simp only [Region.wanted, hg, hy]
          cases x <;> cases c <;> rfl
        | tuple arr =>
          rw [hf] at hw
          obtain ⟨l⟩ := arr
          cases l with
          | nil =>
            injection hw with hw
            subst hw
            exact unwantedNo hg (yieldedNo hq hd ((h d).trans hf))
          | cons _ _ => cases hw
        | _ => rw [hf] at hw; cases hw
theorem eas_step {ops : Array Oper} {Q : Exit → Act → World → Prop} {K : Act → World → Prop} {j : Nat} {o : Oper} {a : Act} {w : World} {f : Nat → Value} {x : Value} (ho : ops[j]? = some o) (h : ∀ d, a.eval (.tmp d) = f d) (he : eas ops f o = some x) (hK : K (a.put o.dst x) w) : wpOp Try.prog ops Q j K a w := by
  have ev := evO_eval h
  unfold eas at he
  cases hw : wnt ops f o with
  | none => simp [hw] at he
  | some b =>
    have hw2 := wnt_is h hw
    cases b with
    | false =>
      simp only [hw] at he
      injection he with he
      subst he
      exact stepU ho hw2 hK
    | true =>
      simp only [hw] at he
      cases hop : o.op with
      | move y =>
        simp only [hop] at he
        injection he with he
        exact stepV ho hw2 (execMvB hop ((ev y).trans he)) hK
      | assign y =>
        simp only [hop] at he
        injection he with he
        exact stepV ho hw2 (execAsgB hop ((ev y).trans he)) hK
      | pick c y z =>
        simp only [hop] at he
        cases hc : evO f c with
        | bool t =>
          rw [hc] at he
          cases t with
          | true =>
            injection he with he
            exact stepV ho hw2 (execPickT hop ((ev c).trans hc) ((ev y).trans he)) hK
          | false =>
            injection he with he
            exact stepV ho hw2 (execPickF hop ((ev c).trans hc) ((ev z).trans he)) hK
        | _ => rw [hc] at he; cases he
      | extract y k =>
        simp only [hop] at he
        cases hc : evO f y with
        | tuple arr =>
          rw [hc] at he
          exact stepV ho hw2 (execExtT hop ((ev y).trans hc) he) hK
        | _ => rw [hc] at he; cases he
      | _ => simp [hop] at he
theorem wy {ops : Array Oper} {o q : Oper} {a : Act} {k d : Nat} {b : Bool} (hg : o.guard = some (k, b)) (hq : ops[k]? = some q) (hd : q.dst = some d) (hv : a.eval (.tmp d) = .bool b) : Region.wanted o (yielded ops a.tmps) = true := wantedOf hg (yieldedAt hq hd hv)
end Go.Proofs.Ytcibogmghagpoaa.Cf
