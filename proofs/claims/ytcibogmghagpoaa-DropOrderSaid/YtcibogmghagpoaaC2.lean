import Derived.Test.YtcibogmghagpoaaL3
import Derived.Test.YtcibogmghagpoaaY6a
namespace Go.Proofs.Ytcibogmghagpoaa.Cel
open Go.RowKit Gf8 Aes By8
/- CellKeeps: rows of one's own, many side by side; lists of lists. -/

/-- m rows of bytes, each of its own, no two of one block. -/
structure Fam (B m : Nat) (x : Nat → Value) (nn : Nat → Nat) (ff : Nat → Nat → Nat) (W : World) : Prop where
  rows : ∀ t, t < m → W.ownsRow B 5 1 (x t) (nn t) (bytesL (nn t) (ff t))
  dis : ∀ s t, s < m → t < m → s ≠ t → Dis (x s) (x t)
theorem Fam.none (B : Nat) (x : Nat → Value) (nn : Nat → Nat) (ff : Nat → Nat → Nat) (W : World) : Fam B 0 x nn ff W := ⟨fun t h => by omega, fun s t h => by omega⟩
theorem Fam.on {B m : Nat} {x : Nat → Value} {nn : Nat → Nat} {ff : Nat → Nat → Nat} {W W' : World} (h : Fam B m x nn ff W) (hb : Below W.heap.size W W') : Fam B m x nn ff W' := ⟨fun t ht => ownsRow_below (h.rows t ht) hb, h.dis⟩
def updX (x : Nat → Value) (m : Nat) (r : Value) : Nat → Value := fun t => if t = m then r else x t
theorem updX_at (x : Nat → Value) (m : Nat) (r : Value) : updX x m r m = r := if_pos rfl
theorem updX_lt (x : Nat → Value) {m t : Nat} (r : Value) (h : t < m) : updX x m r t = x t := if_neg (by omega)
/-- One more, made behind all that lay. -/
theorem Fam.add {B m : Nat} {x : Nat → Value} {nn : Nat → Nat} {ff : Nat → Nat → Nat} {W W' : World} (h : Fam B m x nn ff W) (hb : Below W.heap.size W W') (hB : B ≤ W.heap.size) {r : Value} (hr : W'.ownsRow W.heap.size 5 1 r (nn m) (bytesL (nn m) (ff m))) : Fam B (m + 1) (updX x m r) nn ff W' := by
  refine ⟨fun t ht => ?_, fun s t hs ht hst => ?_⟩
  · by_cases e : t = m
    · subst e; rw [updX_at]; exact own_base hr hB
    · rw [updX_lt _ _ (by omega)]; exact ownsRow_below (h.rows t (by omega)) hb
  · by_cases e : t = m
    · subst e
      rw [updX_at, updX_lt _ _ (by omega)]
      exact dis_new (h.rows s (by omega)) hr
    · rw [updX_lt x r (show t < m by omega)]
      by_cases e2 : s = m
      · subst e2
        rw [updX_at]
        exact (dis_new (h.rows t (by omega)) hr).symm
      · rw [updX_lt _ _ (by omega)]
        exact h.dis s t (by omega) (by omega) hst
/-- A row of bytes lies in a block of bytes. -/
theorem own_type {W : World} {B n k : Nat} {v : Value} {xs : List Value} (h : W.ownsRow B 5 1 v n xs) (hk : v.ownBlock = some k) : ∃ c, W.heap[k]? = some (.cells c 5) := by
  rcases h.2 with ⟨rfl, _⟩ | ⟨g, cap, cur, rfl, _, hg, _⟩
  · cases hk
  · have e : g = k := Option.some.inj hk
    subst e
    exact ⟨cur, hg⟩
theorem own_typeL {W : World} {B n k : Nat} {v : Value} {xs : List Value} (h : W.ownsRow B 23 1 v n xs) (hk : v.ownBlock = some k) : ∃ c, W.heap[k]? = some (.cells c 23) := by
  rcases h.2 with ⟨rfl, _⟩ | ⟨g, cap, cur, rfl, _, hg, _⟩
  · cases hk
  · have e : g = k := Option.some.inj hk
    subst e
    exact ⟨cur, hg⟩
theorem types_ne {W : World} {B C n m : Nat} {v u : Value} {xs ys : List Value} (h : W.ownsRow B 5 1 v n xs) (h' : W.ownsRow C 23 1 u m ys) : v.ownBlock = none ∨ u.ownBlock ≠ v.ownBlock := by
  cases hv : v.ownBlock with
  | none => exact Or.inl rfl
  | some k =>
    refine Or.inr fun e => ?_
    obtain ⟨c, hc⟩ := own_type h hv
    obtain ⟨d, hd⟩ := own_typeL h' e
    rw [hc] at hd
    simp at hd
/-- A list of lists has grown. -/
theorem Fam.grown {B C m n : Nat} {x : Nat → Value} {nn : Nat → Nat} {ff : Nat → Nat → Nat} {W W' : World} {u : Value} {ys : List Value} (h : Fam B m x nn ff W) (hu : W.ownsRow C 23 1 u n ys) (hg : W.grownBy W' u.ownBlock) : Fam B m x nn ff W' :=
  ⟨fun t ht => (h.rows t ht).kept hg ((types_ne (h.rows t ht) hu).imp id fun e => fun q => e q.symm), h.dis⟩
section
variable {P : Program} (w : World)
end
section
variable {P : Program} (w : World)
end
theorem execIdxL {o : Oper} {a : Act} {w : World} {y i : Operand} {b n cap k : Nat} (ho : o.op = .indexAddr 29 y i) (hx : a.eval y = .slice (some ⟨b, 0, none⟩) n cap) (hi : a.eval i = .int .i64 (k : Int)) (hk : k < n) : (execOp a.eval o).run Try.prog w = .ok (.value (.pointer (some ⟨b, k, none⟩))) w := by
  have h1 : (k : Int) < n := by omega
  unfold execOp
  simp only [ho, hx, hi]
  simp [go_sem, h1]
theorem execLdL {o : Oper} {a : Act} {w : World} {y : Operand} {b f : Nat} {v : Value} (ho : o.op = .load 23 y) (hx : a.eval y = .pointer (some ⟨b, f, none⟩)) (hc : w.cell? ⟨b, f, none⟩ = some v) : (execOp a.eval o).run Try.prog w = .ok (.value v) w := by
  unfold execOp
  simp only [ho, hx]
  simp [go_sem, hc]
end Go.Proofs.Ytcibogmghagpoaa.Cel
