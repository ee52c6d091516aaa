import Derived.Test.YtjckkdjldnobmaaGreatDoorX5q
import Derived.Test.YtjckkdjldnobmaaGreatDoorY2
import Derived.Test.YtjckkdjldnobmaaGreatDoorY3
import Derived.Lib.SmallJoins
import Derived.Test.YtjckkdjldnobmaaGreatDoorC6
import Derived.Deep.SlicePairs
import Derived.OpenShut
import Derived.ChangeOld
import Derived.SizedLaws
import Derived.Deep.DeepHandedRow
namespace Go.Proofs.YtjckkdjldnobmaaGreatDoor.Oni
open Go.ChangeShapes Go.WideShapes Go.ChangeAt Go.RowKit Gf8 Aes By8 Cel
/- A Job as an argument. -/
section
variable {H:Type} {enc:TypeId × Value->H} {P:Program} {k e:TypeId} {n:Nat} {W:World} {base:Nat} {sp:Nat->Bool} {held:Bool}
theorem cells_bytes (hu:P.underlying k=some (.array n e)) (he:P.underlying e=some (.int .u8)) (one:P.cellsOf e=1) (size:P.cellsOf k=n) {fuel:Nat} {cs:List Value} {x:DataW H × List MemPlace}
  (hl:cs.length=n) (hf:DataW.trod enc P W base sp held fuel k cs=some x):∃ f:Nat->Nat,(∀ i,i < n->f i < 256)/\∀ i,i < n->cs[i]?=some (.int .u8 (f i)):=by
 cases fuel with
 | zero=>simp [DataW.trod] at hf
 | succ m=>
  rw [DataW.trod_step] at hf
  unfold DataW.trodStep at hf
  simp only [hu] at hf
  rw [if_pos (by rw [size]; exact hl)] at hf
  simp only [Option.map_eq_some_iff,one] at hf
  obtain ⟨ys,hy,e1⟩:=hf
  obtain ⟨f,hfd⟩:∃ f:Nat->Nat,∀ i a,cs[i]?=some (.int .u8 a)->f i=a.toNat:=
   ⟨fun i=>match cs[i]? with | some (.int .u8 a)=>a.toNat | _=>0,fun i a h=>by simp only [h]⟩
  have key:∀ i,i ∈ List.range n->∀ y,DataW.trod enc P W base sp held m e ((cs.drop (i * 1)).take 1)=some y->y=(.lit (.int .u8 (f i)),[])/\cs[i]?=some (.int .u8 (f i))/\f i < 256:=by
   intro i _ y hy
   obtain ⟨a,ea,rfl,wa⟩:=DataW.trod_int he hy
   have h1:=one_at _ ea
   have h2:=hfd i a h1
   have h3:=wfB.1 wa
   have h4:(f i:Int)=a:=by rw [h2]; omega
   rw [h4]
   exact ⟨rfl,h1,by omega⟩
  obtain ⟨r1,r2⟩:=mapM_back (h:=fun i=>((.lit (.int .u8 (f i)),[]):DataW H × List MemPlace)) _ ys hy fun i hi y h=>(key i hi y h).1
  have r3:∀ i,i < n->cs[i]?=some (.int .u8 (f i))/\f i < 256:=fun i hi=>(key i (List.mem_range.2 hi) _ (r2 i (List.mem_range.2 hi))).2
  exact ⟨f,fun i hi=>(r3 i hi).2,fun i hi=>(r3 i hi).1⟩
end
end Go.Proofs.YtjckkdjldnobmaaGreatDoor.Oni

namespace Go.Proofs.YtjckkdjldnobmaaGreatDoor.Oni
open Go.ChangeShapes Go.WideShapes Go.ChangeAt Go.RowKit Gf8 Aes By8 Cel
/- OnionPeels. -/
structure Cells (W:World) (cv:Value) (n:Nat) (xv:Nat->Value) (ln:Nat->Nat) (c:Nat->Nat->Nat):Prop where
 shape:∃ a cap,cv=.slice a n cap/\n<=cap/\cap < 9223372036854775808/\(0 < n->∃ b off,a=some ⟨b,off,none⟩/\b < W.heap.size/\∀ i,i < n->W.cell? ⟨b,off+i,none⟩=some (xv i))
 cell:∀ i,i < n->SliceN W (xv i) (ln i) (c i)
 nil:∀ i,i < n->∀ l cc,xv i=.slice none l cc->cc=0
 lens:∀ i,i < n->ln i<=140737488351232
theorem Cells.on {W W':World} {cv:Value} {n:Nat} {xv:Nat->Value} {ln:Nat->Nat} {c:Nat->Nat->Nat} (h:Cells W cv n xv ln c) (hb:Below W.heap.size W W'):Cells W' cv n xv ln c:=by
 obtain ⟨a,cap,e,h1,h2,h3⟩:=h.shape
 refine ⟨⟨a,cap,e,h1,h2,fun h0=>?_⟩,fun i hi=>(h.cell i hi).on hb,h.nil,h.lens⟩
 obtain ⟨b,off,e2,hl,hc⟩:=h3 h0
 exact ⟨b,off,e2,Nat.lt_of_lt_of_le hl hb.size,fun i hi=>by rw [cell_below hb hl]; exact hc i hi⟩
theorem Cells.one {W:World} {cv:Value} {n:Nat} {xv:Nat->Value} {ln:Nat->Nat} {c:Nat->Nat->Nat} (h:Cells W cv n xv ln c):cv.oneCell'=true:=by
 obtain ⟨a,cap,rfl,_⟩:=h.shape
 rfl
end Go.Proofs.YtjckkdjldnobmaaGreatDoor.Oni
