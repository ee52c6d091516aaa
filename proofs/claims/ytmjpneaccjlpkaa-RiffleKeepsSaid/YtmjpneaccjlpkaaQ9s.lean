import Derived.Test.YtmjpneaccjlpkaaS9a
namespace Go.Proofs.Ytmjpneaccjlpkaa.Brd
open Go.RowKit Gf8 Aes By8 Cel Cf Tap Drw Prm
/- Stage 12's BraidBack. Written by tools/mkQ9q.py. -/
def akC (a b c d:Value):Array Value:=#[a,b,c,d]
section
variable {W:World} {g:Nat} {a b c d:Value} {t:TypeId}
theorem ak_at0 (h:W.heap[g]?=some (.cells (akC a b c d) t)):W.cell? ⟨g,0,none⟩=some a:=by rw [cell_of_row _ _ _ _ _ _ h]; rfl
theorem ak_at1 (h:W.heap[g]?=some (.cells (akC a b c d) t)):W.cell? ⟨g,1,none⟩=some b:=by rw [cell_of_row _ _ _ _ _ _ h]; rfl
theorem ak_at2 (h:W.heap[g]?=some (.cells (akC a b c d) t)):W.cell? ⟨g,2,none⟩=some c:=by rw [cell_of_row _ _ _ _ _ _ h]; rfl
theorem ak_at3 (h:W.heap[g]?=some (.cells (akC a b c d) t)):W.cell? ⟨g,3,none⟩=some d:=by rw [cell_of_row _ _ _ _ _ _ h]; rfl
end
section
variable {o:Oper} {a:Act} {w:World}
end
theorem open_sl {W:World} {v:Value} {n:Nat} {f:Nat->Int} (h:SliceI W v n f) (hn:0 < n):∃ b o c,v=.slice (some ⟨b,o,none⟩) n c/\b < W.heap.size/\∀ j,j < n->W.cell? ⟨b,o+j,none⟩=some (.int .i64 (f j)):=by
 obtain ⟨a,c,rfl,_,_,hs⟩:=h.shape
 obtain ⟨b,o,rfl,h1,h2⟩:=hs hn
 exact ⟨b,o,c,rfl,h1,h2⟩
end Go.Proofs.Ytmjpneaccjlpkaa.Brd

namespace Go.Proofs.Ytmjpneaccjlpkaa.Brd
open Go.RowKit Gf8 Aes By8 Cel Cf Tap Drw Prm
/- Stage 12's BraidSizes. Written by tools/mkQ9s.py. -/
section
variable {o:Oper} {a:Act} {w:World}
theorem execBsLI4 {x0 x1 x2 x3:Operand} {r0 r1 r2 r3:Value} (ho:o.op=.buildSlice 50 4 #[(0,x0),(1,x1),(2,x2),(3,x3)]) (h0:a.eval x0=r0) (h1:a.eval x1=r1) (h2:a.eval x2=r2) (h3:a.eval x3=r3)
  (q0:∃ g n c,r0=.slice g n c) (q1:∃ g n c,r1=.slice g n c) (q2:∃ g n c,r2=.slice g n c) (q3:∃ g n c,r3=.slice g n c) :
  (execOp a.eval o).run Try.prog w=.ok (.value (.slice (some ⟨w.heap.size,0,none⟩) 4 4)) (w.alloc (.cells #[r0,r1,r2,r3] 24)):=by
 obtain ⟨_,_,_,rfl⟩:=q0
 obtain ⟨_,_,_,rfl⟩:=q1
 obtain ⟨_,_,_,rfl⟩:=q2
 obtain ⟨_,_,_,rfl⟩:=q3
 unfold execOp
 simp only [ho,List.map_toArray,List.map_cons,List.map_nil,h0,h1,h2,h3]
 simp [go_sem]
end
end Go.Proofs.Ytmjpneaccjlpkaa.Brd
