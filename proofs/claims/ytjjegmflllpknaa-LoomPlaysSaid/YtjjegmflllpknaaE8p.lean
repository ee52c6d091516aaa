import Derived.Test.YtjjegmflllpknaaE8n
namespace Go.Proofs.Ytjjegmflllpknaa.Loo
open Go.RowKit Gf8 Aes By8 Cel Cf Win Drw Prm
/- LoomPipes. Written by tools/mkE8p.py. -/
theorem SliceI.at {W:World} {v:Value} {f:Nat->Int} {n b off c j:Nat} (h:SliceI W v n f) (e:v=.slice (some ⟨b,off,none⟩) n c) (hj:j < n):W.cell? ⟨b,off+j,none⟩=some (.int .i64 (f j)):=by
 obtain ⟨a,cap,e1,_,_,h1⟩:=h.shape
 rw [e] at e1
 obtain ⟨b2,off2,e2,_,h3⟩:=h1 (by omega)
 rw [e2] at e1
 injection e1 with e3
 injection e3 with e3
 injection e3 with e4 e5 _
 rw [e4,e5]
 exact h3 j hj
theorem SliceV.sub {W:World} {v:Value} {x:Nat->Value} {n b off c lo hi c2:Nat} (h:SliceV W v n x) (e:v=.slice (some ⟨b,off,none⟩) n c) (h1:lo < hi) (h2:hi<=n):SliceV W (.slice (some ⟨b,off+lo,none⟩) (hi - lo) c2) (hi - lo) (fun t=>x (lo+t)):=by
 have hb:b < W.heap.size:=by
  obtain ⟨a,cap,e1,h3⟩:=h
  rw [e] at e1
  obtain ⟨b2,off2,e2,h4,_⟩:=h3 (by omega)
  rw [e2] at e1
  injection e1 with e3
  injection e3 with e3
  injection e3 with e4 e5 _
  rw [e4]
  exact h4
 refine ⟨_,_,rfl,fun _=>⟨b,off+lo,rfl,hb,fun t ht=>?_⟩⟩
 rw [Nat.add_assoc]
 exact h.at e (by omega)
section
variable {o:Oper} {a:Act} {w:World}
end
theorem len0 {W:World} {v:Value} {l:List Int} {f:Nat->Int} (h:SliceI W v l.length f) (e:l=[]):∃ a c,v=.slice a 0 c:=by
 have h1:=h.shp
 rw [e] at h1
 exact h1
end Go.Proofs.Ytjjegmflllpknaa.Loo
