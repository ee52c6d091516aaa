import Derived.Test.YtjoffdaknacbpaaF9b
namespace Go.Proofs.Ytjoffdaknacbpaa.Cf
open Go.RowKit Gf8 Aes By8 Cel
/- A drawn region, walked in one order: what only reads may come up at any time, what changes the world comes up in one order. -/

/-- i waits for p, by steps. -/
def rch (ops : Array Oper) : Nat → Nat → Nat → Bool
  | 0, _, _ => false
  | k + 1, i, p => (List.range i).any fun j => waits (opA ops i) j && (Nat.beq j p || rch ops k j p)
/-- Slot d is settled where operation j comes up. -/
def okd (ops : Array Oper) (j d : Nat) : Bool :=
  (List.range ops.size).all fun i => (match (opA ops i).dst with | none => true | some e => !Nat.beq e d) || waits (opA ops j) i || Nat.beq i j || rch ops 12 i j
def okx (ops : Array Oper) (j : Nat) : Operand → Bool
  | .tmp d => okd ops j d
  | _ => true
def dOk (ops : Array Oper) (p i : Nat) : Bool := match (opA ops p).dst with | none => true | some d => !okd ops i d
def psh (ops : Array Oper) (p : Nat) (v : Value) (ev : List (Nat × Value)) : List (Nat × Value) := match (opA ops p).dst with | none => ev | some d => (d, v) :: ev
def Ag (ops : Array Oper) (E : Nat → Value) (p : Nat) (ev : List (Nat × Value)) (a : Act) : Prop := ∀ x, okx ops p x = true → a.eval x = evO (lk E ev) x
section
variable (ops : Array Oper) (Q : Exit → Act → World → Prop) (N : Nat) (D : List Deferred) (E : Nat → Value) (C : World → Prop) (ef rd nc : List Nat)
end
theorem evO_cg {f g : Nat → Value} (h : ∀ d, f d = g d) : ∀ x, evO f x = evO g x
  | .tmp d => h d
  | .const _ => rfl
  | .global _ => rfl
  | .func _ => rfl
section
variable {ops : Array Oper} {Q : Exit → Act → World → Prop} {N : Nat} {D : List Deferred} {E : Nat → Value} {C : World → Prop} {ef rd nc : List Nat} {W : World}
theorem Ag.cg {p : Nat} {ev ev' : List (Nat × Value)} {a : Act} (e : ∀ d, lk E ev d = lk E ev' d) (h : Ag ops E p ev a) : Ag ops E p ev' a := fun x hx => (h x hx).trans (evO_cg e x)
theorem lk_psh {p : Nat} {v : Value} {ev : List (Nat × Value)} {d : Nat} (h : (opA ops p).dst ≠ some d) : lk E (psh ops p v ev) d = lk E ev d := by
  unfold psh
  cases hd : (opA ops p).dst with
  | none => rfl
  | some q =>
    simp only [lk]
    cases hb : Nat.beq d q with
    | false => rfl
    | true => exact absurd (by rw [hd, Nat.eq_of_beq_eq_true hb]) h
theorem ag_lk {p i : Nat} (h : dOk ops p i = true) (v : Value) (ev : List (Nat × Value)) : ∀ x, okx ops i x = true → evO (lk E (psh ops p v ev)) x = evO (lk E ev) x
  | .tmp d, hx => lk_psh fun q => by
    unfold dOk at h
    rw [q] at h
    have hx' : okd ops i d = true := hx
    simp [hx'] at h
  | .const _, _ => rfl
  | .global _, _ => rfl
  | .func _, _ => rfl
theorem Ag.up {p i : Nat} {v : Value} {ev : List (Nat × Value)} {a : Act} (h : dOk ops p i = true) (ha : Ag ops E i ev a) : Ag ops E i (psh ops p v ev) a := fun x hx => (ha x hx).trans (ag_lk h v ev x hx).symm
end
section
variable {ops : Array Oper} {Q : Exit → Act → World → Prop} {N : Nat} {D : List Deferred} {E : Nat → Value} {C : World → Prop} {ef rd nc ord : List Nat} {m : Nat} {vs : List (Nat × Value)} {W : World}
end
end Go.Proofs.Ytjoffdaknacbpaa.Cf
