import Derived.Test.YtghnhfigihnciaaGreatC9m
namespace Go.Proofs.YtghnhfigihnciaaGreat.Win
open Go.RowKit Gf8 Aes By8 Cel Cf
/- The reference's Open. Written by tools/mkC9n.py. -/

/-- A window that is answered, in memory of its own, and an error's number. -/
def OpP (V : World) (o : Wn × Nat) (e : Ending) (w' : World) : Prop := ∃ ev n nu tw ln t, e = .returned (.tuple #[.agg (wC o.1.1 ev), .int .i64 ((o.2 : Nat) : Int)]) ∧ esL n nu ln t = o.1.2 ∧ NwE V.heap.size w' ev n nu tw ln t
end Go.Proofs.YtghnhfigihnciaaGreat.Win
