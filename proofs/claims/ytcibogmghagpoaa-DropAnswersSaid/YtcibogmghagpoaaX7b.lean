import Derived.Test.YtcibogmghagpoaaC2
namespace Go.Proofs.Ytcibogmghagpoaa.Cel
open Go.RowKit Gf8 Aes By8
/- Lists of their own, of any lengths, that are marked and grown apart. -/

/-- Row t and what was appended to it. -/
def gM (f : Nat → Nat) (n z : Nat) : Nat → Nat := fun l => if l < n then f l else z
/-- m lists, the t-th of nn t bytes; what each has been grown to. -/
structure ApN (B m : Nat) (nn : Nat → Nat) (x : Nat → Value) (ff : Nat → Nat → Nat) (zz : Nat → Nat) (gv : Nat → Value) (gl : Nat → Nat) (W : World) : Prop where
  fam : Fam B m x nn ff W
  grown : ∀ t, t < m → W.ownsRow B 5 1 (gv t) (gl t) (bytesL (gl t) (gM (ff t) (nn t) (zz t)))
  le : ∀ t, t < m → nn t ≤ gl t
  at' : ∀ t, t < m → (gv t).ownBlock = (x t).ownBlock ∨ ∀ s, s < m → Dis (gv t) (x s)
  dis : ∀ s t, s < m → t < m → s ≠ t → Dis (gv s) (gv t)
theorem ApN.on {B m : Nat} {nn : Nat → Nat} {x : Nat → Value} {ff : Nat → Nat → Nat} {zz : Nat → Nat} {gv : Nat → Value} {gl : Nat → Nat} {W W' : World} (h : ApN B m nn x ff zz gv gl W) (hb : Below W.heap.size W W') : ApN B m nn x ff zz gv gl W' :=
  ⟨h.fam.on hb, fun t ht => ownsRow_below (h.grown t ht) hb, h.le, h.at', h.dis⟩
/-- A cell of a list of lists is set: the bytes stay. -/
theorem ApN.cell {B m : Nat} {nn : Nat → Nat} {x : Nat → Value} {ff : Nat → Nat → Nat} {zz : Nat → Nat} {gv : Nat → Value} {gl : Nat → Nat} {W : World} {b k : Nat} {c : Array Value} {u : Value} (h : ApN B m nn x ff zz gv gl W) (hb : W.heap[b]? = some (.cells c 23)) : ApN B m nn x ff zz gv gl (W.setCell ⟨b, k, none⟩ u) :=
  ⟨⟨fun t ht => own_stays (h.fam.rows t ht) hb (fun e => own_ne (h.fam.rows t ht) hb (by decide) e.symm), h.fam.dis⟩, fun t ht => own_stays (h.grown t ht) hb (fun e => own_ne (h.grown t ht) hb (by decide) e.symm), h.le, h.at', h.dis⟩
end Go.Proofs.Ytcibogmghagpoaa.Cel
