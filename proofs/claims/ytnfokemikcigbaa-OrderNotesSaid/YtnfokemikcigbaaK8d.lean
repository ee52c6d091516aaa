import Derived.Test.YtnfokemikcigbaaK8b
namespace Go.Proofs.Ytnfokemikcigbaa.Ord
open Go.RowKit Gf8 Aes By8 Cel Cf Win Drw Prm
open Go.ChangeMaps Go.MapKept
/- The landed buffers of ints. Written by tools/mkK8d.py. -/

section
variable {o : Oper} {a : Act} {w w' : World}
end
section
variable {t : TypeId} {W X : World} {F : Nat → Prop} {g b n k : Nat} {m : Value} {S S' : Its} {o : Obj}
theorem Bq.made (h : Bq t W F g m [] n) : Bq t ((W.alloc (.map #[] 0)).setCell ⟨g, 0, none⟩ (.map (some W.heap.size))) (fun q => F q ∨ q = W.heap.size) g (.map (some W.heap.size)) [] n := by
  have hg2 := on9 h.hg (belNew W (.map #[] 0))
  have hl := (Array.getElem?_eq_some_iff.1 h.hg).1
  refine ⟨Or.inl h.gF, bC_set0 hg2, Or.inr ⟨_, rfl, Or.inr rfl, (mi_new W).keep ?_⟩, fun q hq => ?_⟩
  · exact heap4o _ hg2 (by omega)
  · have : ((W.alloc (.map #[] 0)).setCell ⟨g, 0, none⟩ (.map (some W.heap.size))).heap.size = W.heap.size + 1 := by simp [World.setCell]
    rw [this]
    rcases hq with hq | rfl
    · exact Nat.lt_succ_of_lt (h.lt q hq)
    · omega
theorem Bq.next (h : Bq t W F g m S n) : Bq t (W.setCell ⟨g, 1, none⟩ (.int .i64 ((k : Nat) : Int))) F g m S k := by
  refine ⟨h.gF, bC_set1 h.hg, h.mp.imp id fun ⟨b, e, q, r⟩ => ⟨b, e, q, r.keep (heap4o _ h.hg (r.ne h.hg))⟩, fun q hq => ?_⟩
  have : (W.setCell ⟨g, 1, none⟩ (.int .i64 ((k : Nat) : Int))).heap.size = W.heap.size := by simp [World.setCell]
  rw [this]; exact h.lt q hq
end
section
variable {o : Oper} {a : Act} {w : World}
end
end Go.Proofs.Ytnfokemikcigbaa.Ord
