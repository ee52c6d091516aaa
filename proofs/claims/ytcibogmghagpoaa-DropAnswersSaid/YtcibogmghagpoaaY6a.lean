import Derived.Test.YtcibogmghagpoaaY6
namespace Go.Proofs.Ytcibogmghagpoaa.By8
open Go.RowKit Gf8 Aes
/- All but some blocks as they were; rows of lists. -/

/-- All but the blocks G is as it was. -/
structure Saved (G : Nat → Prop) (w w' : World) : Prop where
  os : w'.os = w.os
  tape : w'.tape = w.tape
  output : w'.output = w.output
  size : w.heap.size ≤ w'.heap.size
  block : ∀ k, k < w.heap.size → ¬ G k → w'.heap[k]? = w.heap[k]?
theorem Saved.refl (G : Nat → Prop) (w : World) : Saved G w w := ⟨rfl, rfl, rfl, Nat.le_refl _, fun _ _ _ => rfl⟩
theorem Saved.below {G : Nat → Prop} {w w' w'' : World} {B : Nat} (h : Saved G w w') (hb : Below B w' w'') (hB : w.heap.size ≤ B) : Saved G w w'' :=
  ⟨hb.os.trans h.os, hb.tape.trans h.tape, hb.output.trans h.output, Nat.le_trans h.size hb.size, fun k hk hG => by rw [hb.block k (by omega), h.block k hk hG]⟩
theorem Saved.cell {G : Nat → Prop} {w w' : World} (h : Saved G w w') {b o : Nat} (v : Value) (hG : w.heap.size ≤ b ∨ G b) : Saved G w (w'.setCell ⟨b, o, none⟩ v) := by
  have hb : Below b w' (w'.setCell ⟨b, o, none⟩ v) := (Below.refl _ _).setCell (p := ⟨b, o, none⟩) (Nat.le_refl _) v
  refine ⟨hb.os.trans h.os, hb.tape.trans h.tape, hb.output.trans h.output, Nat.le_trans h.size hb.size, fun k hk hk2 => ?_⟩
  rw [Below.heap_setCell _ _ _ _ (fun e => by subst e; rcases hG with h | h; omega; exact hk2 h), h.block k hk hk2]
theorem Saved.grown {G : Nat → Prop} {w w' w'' : World} {row : Option Nat} (h : Saved G w w') (hg : w'.grownBy w'' row) (hG : ∀ k, row = some k → w.heap.size ≤ k ∨ G k) : Saved G w w'' :=
  ⟨hg.os.trans h.os, hg.tape.trans h.tape, hg.output.trans h.output, Nat.le_trans h.size hg.size, fun k hk hk2 => by
    rw [hg.block k (Nat.lt_of_lt_of_le hk h.size) (fun e => by rcases hG k e.symm with h | h; omega; exact hk2 h), h.block k hk hk2]⟩
theorem infoB : ∃ i, Try.prog.info? 23 = some i ∧ i.zero = some (.slice none 0 0) ∧ i.size = 1 ∧ i.bytes = 24 := by
  have h : (Try.prog.info? 23).map (fun i => (i.zero, i.size, i.bytes)) = some (some (.slice none 0 0), 1, 24) := by kernel_rfl
  cases hq : Try.prog.info? 23 with
  | none => rw [hq] at h; cases h
  | some i =>
    rw [hq] at h
    simp only [Option.map_some, Option.some.injEq, Prod.mk.injEq] at h
    exact ⟨i, rfl, h.1, h.2.1, h.2.2⟩
/-- A row of one's own stays where a cell of another block is set. -/
theorem own_stays {W : World} {B n b k : Nat} {v u : Value} {xs : List Value} {c : Array Value} {ty : TypeId} (h : W.ownsRow B 5 1 v n xs) (hb : W.heap[b]? = some (.cells c ty)) (hv : v.ownBlock ≠ some b) : (W.setCell ⟨b, k, none⟩ u).ownsRow B 5 1 v n xs :=
  h.kept (row := some b) ⟨rfl, rfl, rfl, by simp, fun i _ hi => heap4o _ hb (fun e => hi (by rw [e]))⟩ (.inr hv)
end Go.Proofs.Ytcibogmghagpoaa.By8
