import Derived.Test.YtdecmmcphcomhaaQ9q
namespace Go.Proofs.Ytdecmmcphcomhaa.Brd
open Go.RowKit Gf8 Aes By8 Cel Cf Tap Drw Prm
/- Stage 12's BraidSizes. Written by tools/mkQ9s.py. -/

section
variable {o : Oper} {a : Act} {w : World}
theorem execBsLI6 {x0 x1 x2 x3 x4 x5 : Operand} {r0 r1 r2 r3 r4 r5 : Value} (ho : o.op = .buildSlice 63 6 #[(0, x0), (1, x1), (2, x2), (3, x3), (4, x4), (5, x5)]) (h0 : a.eval x0 = r0) (h1 : a.eval x1 = r1) (h2 : a.eval x2 = r2) (h3 : a.eval x3 = r3) (h4 : a.eval x4 = r4) (h5 : a.eval x5 = r5)
    (q0 : ∃ g n c, r0 = .slice g n c) (q1 : ∃ g n c, r1 = .slice g n c) (q2 : ∃ g n c, r2 = .slice g n c) (q3 : ∃ g n c, r3 = .slice g n c) (q4 : ∃ g n c, r4 = .slice g n c) (q5 : ∃ g n c, r5 = .slice g n c) :
    (execOp a.eval o).run Try.prog w = .ok (.value (.slice (some ⟨w.heap.size, 0, none⟩) 6 6)) (w.alloc (.cells #[r0, r1, r2, r3, r4, r5] 23)) := by
  obtain ⟨_, _, _, rfl⟩ := q0
  obtain ⟨_, _, _, rfl⟩ := q1
  obtain ⟨_, _, _, rfl⟩ := q2
  obtain ⟨_, _, _, rfl⟩ := q3
  obtain ⟨_, _, _, rfl⟩ := q4
  obtain ⟨_, _, _, rfl⟩ := q5
  unfold execOp
  simp only [ho, List.map_toArray, List.map_cons, List.map_nil, h0, h1, h2, h3, h4, h5]
  simp [go_sem]
end
end Go.Proofs.Ytdecmmcphcomhaa.Brd
