import Derived.Test.YtnjmcknanlbpdaaGreatDoorB7k
import Derived.Test.YtnjmcknanlbpdaaGreatDoorW8b
import Derived.ChangeSame
namespace Go.Proofs.YtnjmcknanlbpdaaGreatDoor.Rpl
open Go.ChangeShapes Go.WideShapes Go.ChangeAt Go.RowKit Gf8 Aes By8 Cel Oni Rou
/- Stage 27: nonces and an Inner as arguments. Written by tools/mkW8k.py. -/

theorem nons_readW {H : Type} {enc : TypeId × Value → H} {W : World} {v : Value} {d : DataW H} {p : List MemPlace} (h : ∃ fuel, DataW.trod enc Tryz.prog W 0 (fun _ => true) true fuel 36 v.cells.toList = some (d, p))
    (hw : ∀ n ∈ d.weights Tryz.prog 36, n ≤ reachBytes) (hs : ∃ a l c, v = .slice a l c) : ∃ n q, Nons W v n q ∧ n ≤ 140737488351232 := by
  obtain ⟨a, l, c, rfl⟩ := hs
  obtain ⟨fuel, hf⟩ := h
  exact nons_read (d := d) (p := p) hf hw
end Go.Proofs.YtnjmcknanlbpdaaGreatDoor.Rpl
