import Derived.Test.YtjjegmflllpknaaRows
import Derived.ProofKit
import Derived.OpenShut
import Derived.WideKeyPair
import Derived.WalkKit
import Derived.WalkSpells
import Derived.Deep.WholeRow
import Derived.BigQuiet
import Derived.BigRegion
import Derived.Deep.QuietTactic
import Derived.Deep.RegionWith
import Derived.Test.YtjjegmflllpknaaL2
import Derived.Deep.MidRow
import Derived.Laws.CopyRow
import Derived.Laws.AppendOwnNone
import Derived.Laws.BytesArg
import Derived.Laws.AppendOwn
namespace Go.Proofs.Ytjjegmflllpknaa
open Go.ChangeShapes Go.WideShapes Go.ChangeAt Go.RowKit
/- An array of n bytes as an argument: opened, and shut again. -/
theorem wf_i64 {z:Int} (h:(Lit.int .i64 z).wf=true):-9223372036854775808<=z/\z < 9223372036854775808:=by
 have a:IntKind.i64.min=-9223372036854775808:=rfl
 have b:IntKind.i64.max=9223372036854775807:=rfl
 simp [Lit.wf] at h
 omega
def bytesL (n:Nat) (f:Nat->Nat):List Value:=(List.range n).map fun i=>.int .u8 (f i)
theorem bytesL_len (n:Nat) (f:Nat->Nat):(bytesL n f).length=n:=by simp [bytesL]
section
variable {H:Type} {enc:TypeId × Value->H} {P:Program} {k e:TypeId} {n:Nat} {W:World} {base:Nat} {sp:Nat->Bool} {held:Bool}
theorem one_at (cs:List Value) {i:Nat} {v:Value} (h:(cs.drop (i * 1)).take 1=[v]):cs[i]?=some v:=by
 rw [Nat.mul_one] at h
 have h2:((cs.drop i).take 1)[0]?=some v:=by rw [h]; rfl
 simpa using h2
end
end Go.Proofs.Ytjjegmflllpknaa

namespace Go.Proofs.Ytjjegmflllpknaa
open Go.RowKit
def frontB (md:Region.Mode) (ops:Array Oper):Bool:=
 (List.range ops.size).all fun j=>match ops[j]? with | some o=>o.after.all fun e=>!Region.binds md e || decide (e.on < j) | none=>false
def cnt (listed:Array Bool):Nat->Nat
 | 0=>0
 | k+1=>cnt listed k+(if listed.getD k true=false then 1 else 0)
theorem cnt_le (listed:Array Bool) (j:Nat):∀ k,cnt (listed.setIfInBounds j true) k<=cnt listed k
 | 0=>Nat.le_refl _
 | k+1=>by
  have ih:=cnt_le listed j k
  simp only [cnt]
  by_cases e:j=k
  ·subst e
   have:¬ (listed.setIfInBounds j true).getD j true=false:=by
    by_cases h:j < listed.size <;> simp [h]
   rw [if_neg this]
   omega
  ·rw [getD_set_ne true e]
   omega
theorem cnt_lt (listed:Array Bool) (j:Nat) (hj:listed.getD j true=false):∀ k,j < k->cnt (listed.setIfInBounds j true) k+1<=cnt listed k
 | 0,h=>by omega
 | k+1,h=>by
  simp only [cnt]
  by_cases e:j=k
  ·subst e
   have:¬ (listed.setIfInBounds j true).getD j true=false:=by
    by_cases h:j < listed.size <;> simp [h]
   rw [if_neg this,if_pos hj]
   have:=cnt_le listed j j
   omega
  ·rw [getD_set_ne true e]
   have:=cnt_lt listed j hj k (by omega)
   omega
theorem cnt_zero (listed:Array Bool):∀ k,cnt listed k=0->∀ j,j < k->listed.getD j true=true
 | 0,_,j,hj=>by omega
 | k+1,h,j,hj=>by
  simp only [cnt] at h
  by_cases e:j=k
  ·subst e
   cases hb:listed.getD j true with
   | true=>rfl
   | false=>rw [if_pos hb] at h; omega
  ·exact cnt_zero listed k (by omega) j (by omega)
theorem cnt_bound (listed:Array Bool):∀ k,cnt listed k<=k
 | 0=>Nat.le_refl _
 | k+1=>by
  have:=cnt_bound listed k
  simp only [cnt]
  split <;> omega
section
variable {P:Program} {md:Region.Mode} {ops:Array Oper} {Q:Exit->Act->World->Prop}
theorem frontB_spec (h:frontB md ops=true) (j:Nat) (o:Oper) (hj:ops[j]?=some o) (e:_) (he:e ∈ o.after) (hb:Region.binds md e=true):e.on < j:=by
 have hlt:j < ops.size:=(Array.getElem?_eq_some_iff.1 hj).1
 have h4:=(List.all_eq_true.1 h) j (List.mem_range.2 hlt)
 rw [hj] at h4
 simp only at h4
 have h5:=(Array.all_eq_true_iff_forall_mem.1 h4) e he
 simpa [hb] using h5
theorem all_of_ready (hf:frontB md ops=true) {listed:Array Bool} (hs:listed.size=ops.size) (hnil:Region.ready md ops listed=[]):∀ j,j < ops.size->listed.getD j true=true:=by
 intro j
 induction j using Nat.strongRecOn with
 | ind j ih=>
  intro hj
  cases hb:listed.getD j true with
  | true=>rfl
  | false=>
   have:j ∈ Region.ready md ops listed:=mem_ready.2 ⟨hb,ops[j],by simp [hj],fun e he hbd=>by
    have hlt:=frontB_spec hf j _ (by simp [hj]) e he hbd
    have h1:=ih e.on hlt (by omega)
    have hl:e.on < listed.size:=by omega
    simp [hl] at h1 ⊢
    exact h1⟩
   rw [hnil] at this
   cases this
theorem wpAny_inv (I:Array Bool->Act->World->Prop) (hf:frontB md ops=true) (hsize:∀ listed a w,I listed a w->listed.size=ops.size)
  (hstep:∀ listed a w,I listed a w->∀ j o,ops[j]?=some o->listed.getD j true=false->(∀ e ∈ o.after,Region.binds md e=true->listed.getD e.on false=true)->wpOp P ops Q j (fun a' w'=>I (listed.setIfInBounds j true) a' w') a w)
  (hend:∀ listed a w,I listed a w->(∀ j,j < ops.size->listed.getD j true=true)->Q .normal a w) :
  ∀ (fuel:Nat) (listed:Array Bool) (a:Act) (w:World),cnt listed ops.size<=fuel->I listed a w->wpAny P md ops Q fuel listed a w:=by
 intro fuel
 induction fuel with
 | zero=>
  intro listed a w hc hI
  have hall:=cnt_zero listed ops.size (by omega)
  refine ⟨?_,hend _ _ _ hI hall⟩
  apply List.eq_nil_iff_forall_not_mem.2
  intro j hj
  obtain ⟨h1,o,ho,_⟩:=mem_ready.1 hj
  rw [hall j (Array.getElem?_eq_some_iff.1 ho).1] at h1
  cases h1
 | succ fuel ih=>
  intro listed a w hc hI
  refine ⟨fun hnil=>hend _ _ _ hI (all_of_ready hf (hsize _ _ _ hI) hnil),fun j hj=>?_⟩
  obtain ⟨h1,o,ho,hw⟩:=mem_ready.1 hj
  refine wpOp_mono (fun a' w' hI'=>ih _ a' w' ?_ hI') (hstep listed a w hI j o ho h1 hw)
  have:=cnt_lt listed j h1 ops.size (Array.getElem?_eq_some_iff.1 ho).1
  omega
theorem wp_region_inv {id:Nat} {a:Act} {w:World} (I:Array Bool->Act->World->Prop) (hm:P.follows .mixedOrders=true) (hf:frontB .any ops=true) (h0:I (Array.replicate ops.size false) a w.drew)
  (hsize:∀ listed a w,I listed a w->listed.size=ops.size)
  (hstep:∀ listed a w,I listed a w->∀ j o,ops[j]?=some o->listed.getD j true=false->(∀ e ∈ o.after,Region.binds .any e=true->listed.getD e.on false=true)->wpOp P ops Q j (fun a' w'=>I (listed.setIfInBounds j true) a' w') a w)
  (hend:∀ listed a w,I listed a w->(∀ j,j < ops.size->listed.getD j true=true)->Q .normal a w):(Code.region id ops true).wp P Q a w:=
 wp_region_any hm (wpAny_inv I hf hsize hstep hend _ _ _ _ (cnt_bound _ _) h0)
end
end Go.Proofs.Ytjjegmflllpknaa

namespace Go.Proofs.Ytjjegmflllpknaa
open Go.RowKit
def DC (md:Region.Mode) (ops:Array Oper) (listed:Array Bool):Prop:=
 ∀ (j:Nat) (o:Oper),ops[j]?=some o->listed.getD j false=true->∀ e ∈ o.after,Region.binds md e=true->listed.getD e.on false=true
def updS (x:Nat->Value) (j:Nat) (v:Value):Nat->Value:=fun i=>if i=j then v else x i
def waits (o:Oper) (i:Nat):Bool:=o.after.toList.any fun e=>Region.binds .any e && e.on == i
section
variable {P:Program} {ops:Array Oper} {Q:Exit->Act->World->Prop} {j:Nat} {o:Oper} {a:Act} {w:World} {K:Act->World->Prop}
theorem stepV {v:Value} {w':World} (ho:ops[j]?=some o) (hw:Region.wanted o (yielded ops a.tmps)=true) (hv:(execOp a.eval o).run P w=.ok (.value v) w') (hK:K (a.put o.dst v) w'):wpOp P ops Q j K a w:=by
 unfold wpOp
 rw [ho]
 simp only [hw,if_true]
 left
 unfold Oper.wp
 rw [hv]
 exact hK
theorem stepC {f:FuncId} {args:Array Value} {post:Ending->World->Prop} (ho:ops[j]?=some o) (hw:Region.wanted o (yielded ops a.tmps)=true) (hv:(execOp a.eval o).run P w=.ok (.enter f args) w)
  (hc:Calls P f args w post) (hK:∀ e w',post e w'->∃ v,e=.returned v/\K (a.put o.dst v) w'):wpOp P ops Q j K a w:=by
 unfold wpOp
 rw [ho]
 simp only [hw,if_true]
 left
 unfold Oper.wp
 rw [hv]
 exact hc.mono fun e w' he=>by
  obtain ⟨v,rfl,hk⟩:=hK e w' he
  exact hk
theorem execMove {x:Operand} (ho:o.op=.move x):(execOp a.eval o).run P w=.ok (.value (a.eval x)) w:=by
 unfold execOp
 simp only [ho]
 rfl
theorem execCall {f:FuncId} {xs:Array Operand} {ts:Array TypeId} {fn:Func} (ho:o.op=.call { callee:=.value (.func f),args:=xs,argTypes:=ts }) (hf:P.funcs[f]?=some fn) (hname:(fn.name == "runtime.NumGoroutine")=false) (hb:fn.body.isSome=true):(execOp a.eval o).run P w=.ok (.enter f (xs.map a.eval)) w:=by
 have h1:fn.name ≠ "runtime.NumGoroutine":=by simpa using hname
 obtain ⟨c,hc⟩:=Option.isSome_iff_exists.1 hb
 have h2:∀ args,(callFunc f args).run P w=.ok (.enter f args) w:=by intro args; simp [callFunc,hf,h1,hc]
 unfold execOp
 simp only [ho]
 simp [go_sem,h2]
theorem execCall1 {f:FuncId} {ts:Array TypeId} {fn:Func} {x:Operand} {vx:Value} (hf:P.funcs[f]?=some fn) (hname:(fn.name == "runtime.NumGoroutine")=false) (hb:fn.body.isSome=true) (ho:o.op=.call { callee:=.value (.func f),args:=#[x],argTypes:=ts }) (hx:a.eval x=vx):(execOp a.eval o).run P w=.ok (.enter f #[vx]) w:=by
 have h:=execCall (a:=a) (w:=w) ho hf hname hb
 simpa [hx] using h
theorem wantedOf {tmps:Array Value} {k:Nat} {b:Bool} (hg:o.guard=some (k,b)) (hy:yielded ops tmps k=some b):Region.wanted o (yielded ops tmps)=true:=by
 simp [Region.wanted,hg,hy]
end
end Go.Proofs.Ytjjegmflllpknaa

namespace Go.Proofs.Ytjjegmflllpknaa
open Go.RowKit
theorem put_size (a:Act) (d:Option Nat) (v:Value):(a.put d v).tmps.size=a.tmps.size:=by cases d <;> simp [Act.put]
theorem put_other (a:Act) {d e:Nat} (v:Value) (h:d ≠ e):(a.put (some d) v).eval (.tmp e)=a.eval (.tmp e):=by
 simp only [Act.put,Act.eval,Array.getD_eq_getD_getElem?,Array.getElem?_setIfInBounds]
 rw [if_neg h]
theorem put_same (a:Act) {d:Nat} (v:Value) (h:d < a.tmps.size):(a.put (some d) v).eval (.tmp d)=v:=by
 simp [Act.put,Act.eval,h]
theorem yieldedAt {ops:Array Oper} {a:Act} {k d:Nat} {o:Oper} {b:Bool} (ho:ops[k]?=some o) (hd:o.dst=some d) (hv:a.eval (.tmp d)=.bool b):yielded ops a.tmps k=some b:=by
 have h:a.tmps[d]?=some (.bool b):=by
  simp only [Act.eval,Array.getD_eq_getD_getElem?] at hv
  cases hq:a.tmps[d]? with
  | none=>rw [hq] at hv; cases hv
  | some v=>rw [hq] at hv; simp at hv; rw [hv]
 simp [yielded,ho,hd,h]
end Go.Proofs.Ytjjegmflllpknaa

namespace Go.Proofs.Ytjjegmflllpknaa
open Go.RowKit
def dsOf (ops:Array Oper):List (Nat × Nat):=(List.range ops.size).filterMap fun j=>(ops[j]?.bind (·.dst)).map fun d=>(j,d)
theorem mem_dsOf {ops:Array Oper} {j d:Nat}:(j,d) ∈ dsOf ops ↔ ∃ o,ops[j]?=some o/\o.dst=some d:=by
 unfold dsOf
 rw [List.mem_filterMap]
 constructor
 ·rintro ⟨i,_,h⟩
  cases ho:ops[i]? with
  | none=>rw [ho] at h; simp at h
  | some o=>
   rw [ho] at h
   simp only [Option.bind_some,Option.map_eq_some_iff,Prod.mk.injEq] at h
   obtain ⟨d',hd,rfl,rfl⟩:=h
   exact ⟨o,ho,hd⟩
 ·rintro ⟨o,ho,hd⟩
  exact ⟨j,List.mem_range.2 (Array.getElem?_eq_some_iff.1 ho).1,by rw [ho]; simp [hd]⟩
def putP (a:Act) (vals:Nat->Value):List (Nat × Nat)->Act
 | []=>a
 | p :: ds=>putP (a.put (some p.2) (vals p.1)) vals ds
def updB (l:Nat->Bool) (j:Nat):Nat->Bool:=fun i=>if i=j then true else l i
theorem putP_size (vals:Nat->Value):∀ (ds:List (Nat × Nat)) (a:Act),(putP a vals ds).tmps.size=a.tmps.size
 | [],_=>rfl
 | p :: ds,a=>by simp only [putP]; rw [putP_size vals ds,put_size]
theorem putP_defers (vals:Nat->Value):∀ (ds:List (Nat × Nat)) (a:Act),(putP a vals ds).defers=a.defers
 | [],_=>rfl
 | p :: ds,a=>by simp only [putP]; rw [putP_defers vals ds]; rfl
theorem putP_other (vals:Nat->Value) {e:Nat}:∀ (ds:List (Nat × Nat)) (a:Act),e ∉ ds.map (·.2)->(putP a vals ds).eval (.tmp e)=a.eval (.tmp e)
 | [],_,_=>rfl
 | p :: ds,a,h=>by
  simp only [List.map_cons,List.mem_cons,not_or] at h
  simp only [putP]
  rw [putP_other vals ds _ h.2,put_other _ _ (fun q=>h.1 q.symm)]
theorem putP_same (vals:Nat->Value):∀ (ds:List (Nat × Nat)) (a:Act),(ds.map (·.2)).Nodup->(∀ p ∈ ds,p.2 < a.tmps.size)->∀ p,p ∈ ds->(putP a vals ds).eval (.tmp p.2)=vals p.1
 | [],_,_,_,p,hp=>by simp at hp
 | q :: ds,a,hn,hs,p,hp=>by
  simp only [List.map_cons,List.nodup_cons] at hn
  simp only [putP]
  rcases List.mem_cons.1 hp with rfl | hp
  ·rw [putP_other vals ds _ hn.1,put_same _ _ (hs p List.mem_cons_self)]
  ·exact putP_same vals ds _ hn.2 (fun r hr=>by rw [put_size]; exact hs r (List.mem_cons_of_mem _ hr)) p hp
theorem act_ext {a b:Act} (hs:a.tmps.size=b.tmps.size) (hd:a.defers=b.defers) (h:∀ e,a.eval (.tmp e)=b.eval (.tmp e)):a=b:=by
 obtain ⟨at',ad⟩:=a
 obtain ⟨bt,bd⟩:=b
 simp only at hs hd
 subst hd
 congr 1
 apply Array.ext hs
 intro i h1 h2
 have:=h i
 simp only [Act.eval,Array.getD_eq_getD_getElem?,Array.getElem?_eq_getElem h1,Array.getElem?_eq_getElem h2,Option.getD_some] at this
 exact this
theorem inj2:∀ (L:List (Nat × Nat)),(L.map (·.2)).Nodup->∀ x y z,(x,z) ∈ L->(y,z) ∈ L->x=y:=by
 intro L
 induction L with
 | nil=>intro _ x y z hx; simp at hx
 | cons p L ih=>
  intro hn x y z hx hy
  simp only [List.map_cons,List.nodup_cons] at hn
  rcases List.mem_cons.1 hx with h1 | h1 <;> rcases List.mem_cons.1 hy with h2 | h2
  ·exact congrArg Prod.fst (h1.trans h2.symm)
  ·subst h1; exact absurd (List.mem_map.2 ⟨(y,z),h2,rfl⟩) hn.1
  ·subst h2; exact absurd (List.mem_map.2 ⟨(x,z),h1,rfl⟩) hn.1
  ·exact ih hn.2 x y z h1 h2
theorem stepS {P:Program} {ops:Array Oper} {Q:Exit->Act->World->Prop} {j:Nat} {o:Oper} {a:Act} {w w':World} {K:Act->World->Prop} (ho:ops[j]?=some o) (hw:Region.wanted o (yielded ops a.tmps)=true) (hv:(execOp a.eval o).run P w=.ok .skip w') (hK:K (a.put o.dst undef) w'):wpOp P ops Q j K a w:=by
 unfold wpOp
 rw [ho]
 simp only [hw,if_true]
 left
 unfold Oper.wp
 rw [hv]
 exact hK
end Go.Proofs.Ytjjegmflllpknaa

namespace Go.Proofs.Ytjjegmflllpknaa.Gf8
open Go.RowKit
/- Rows of bytes, ints and bytes in the walk: of types it names bytes and ints alone. -/
theorem frozen4 {W:World} {b o:Nat} {c:Array Value} {t:TypeId} (h:W.heap[b]?=some (.cells c t)):W.frozen? ⟨b,o,none⟩=false:=by simp [World.frozen?,h]
theorem below4 {B:Nat} {a w:World} (h:Below B a w) {g:Nat} (hg:B<=g) (c:Array Value):Below B a (w.setRow g c):=
 h.trans ⟨rfl,rfl,rfl,by simp,fun k hk=>setRow_other w g k c (by omega)⟩
theorem heap4 {W:World} {b k:Nat} {c:Array Value} {t:TypeId} (v:Value) (h:W.heap[b]?=some (.cells c t)):(W.setCell ⟨b,k,none⟩ v).heap[b]?=some (.cells (c.setIfInBounds k v) t):=by
 rw [setCell_eq_setRow W b k c t _ v h]; exact setRow_heap _ _ _ _ _ _ h
theorem heap4o {W:World} {b k i:Nat} {c:Array Value} {t:TypeId} (v:Value) (h:W.heap[b]?=some (.cells c t)) (hi:i ≠ b):(W.setCell ⟨b,k,none⟩ v).heap[i]?=W.heap[i]?:=by
 rw [setCell_eq_setRow W b k c t _ v h]; exact setRow_other _ _ _ _ (by omega)
end Go.Proofs.Ytjjegmflllpknaa.Gf8
namespace Go.Proofs.Ytjjegmflllpknaa.Aes
open Go.RowKit Gf8
theorem heapNew (W:World) (o:Obj):(W.alloc o).heap[W.heap.size]?=some o:=by show (W.heap.push _)[W.heap.size]?=_; rw [Array.getElem?_push_size]
theorem belNew (W:World) (o:Obj):Below W.heap.size W (W.alloc o):=(Below.refl _ _).alloc (Nat.le_refl _) _
section
variable {o:Oper} {a:Act} {w:World}
theorem execMvB {P:Program} {x:Operand} {v:Value} (ho:o.op=.move x) (hx:a.eval x=v):(execOp a.eval o).run P w=.ok (.value v) w:=by
 rw [← hx]; exact execMove ho
theorem execMulI {x y:Operand} {p q:Nat} (ho:o.op=.binOp .mul 3 x y 3) (hx:a.eval x=.int .i64 p) (hy:a.eval y=.int .i64 q) (h:p * q < 9223372036854775808):(execOp a.eval o).run Try.prog w=.ok (.value (.int .i64 (p * q:Nat))) w:=by
 have e:IntKind.i64.wrap ((p:Int) * q)=(p:Int) * q:=by have:=wrap_i64_nat h; simpa using this
 unfold execOp
 simp only [ho,hx,hy]
 simp [go_sem,e]
theorem execRemI {x y:Operand} {p q:Nat} (ho:o.op=.binOp .rem 3 x y 3) (hx:a.eval x=.int .i64 p) (hy:a.eval y=.int .i64 q) (h:q ≠ 0):(execOp a.eval o).run Try.prog w=.ok (.value (.int .i64 (p % q:Nat))) w:=by
 have e:(p:Int).tmod q=((p % q:Nat):Int):=by rw [Int.tmod_eq_emod_of_nonneg (by omega)]; omega
 unfold execOp
 simp only [ho,hx,hy]
 simp [go_sem,h,e]
end
end Go.Proofs.Ytjjegmflllpknaa.Aes

namespace Go.Proofs.Ytjjegmflllpknaa.Aes
open Go.RowKit Gf8
/- One operation by what it yields; pieces of rows; copy. -/
section
variable {P:Program} {ops:Array Oper} {rest:List Oper} {o:Oper} {a:Act} {w w':World} {Q:Exit->Act->World->Prop}
theorem execLoadMid {ty:TypeId} {x:Operand} {b f:Nat} {cs:List Value} {d:TypeDesc} (ho:o.op=.load ty x) (hx:a.eval x=.pointer (some ⟨b,f,none⟩)) (hc:w.rangeAt b f cs) (hu:P.underlying ty=some d) (hd:d.isRow=true) (hi:(P.info? ty).map (·.size)=some cs.length) :
  (execOp a.eval o).run P w=.ok (.value (.agg cs.toArray)) w:=by
 unfold execOp
 simp only [ho,hx,Sem.run_bind,run_loadAt_mid w b f ty cs d hc hu hd hi,Result.andThen_ok,Sem.run_pure]
theorem execStMid {ty:TypeId} {x y:Operand} {g f:Nat} {cells cur:Array Value} {t:TypeId} (ho:o.op=.store ty x y) (hx:a.eval x=.pointer (some ⟨g,f,none⟩)) (hy:a.eval y=.agg cells) (hg:w.heap[g]?=some (.cells cur t)) (hf:f+cells.size<=cur.size) (hi:(P.info? ty).map (·.size)=some cells.size) (h1:cells.all (·.oneCell')=true) :
  (execOp a.eval o).run P w=.ok .skip (w.setRow g (cur.toList.take f ++ cells.toList ++ cur.toList.drop (f+cells.size)).toArray):=by
 have this:=run_storeCells_at P g f t cells.toList 0 cur w hg (by simpa using hf) (fun v hv=>(Array.all_eq_true_iff_forall_mem.1 h1) v (by simpa using hv))
 simp only [Nat.add_zero,Array.length_toList] at this
 unfold execOp
 cases hq:P.info? ty with
 | none=>simp [hq] at hi
 | some i=>
  have hs:cells.size=i.size:=by simp [hq] at hi; omega
  simp only [ho,hx,hy,Instr.storeAt,Instr.sureAddr,Sem.run_bind,Sem.run_pure,Result.andThen_ok]
  simp [storeVar,sizeOf,typeInfo,hq,Value.cells,← hs,this]
end
theorem stepU {P:Program} {ops:Array Oper} {Q:Exit->Act->World->Prop} {j:Nat} {o:Oper} {a:Act} {w:World} {K:Act->World->Prop} (ho:ops[j]?=some o) (hw:Region.wanted o (yielded ops a.tmps)=false) (hK:K (a.put o.dst undef) w):wpOp P ops Q j K a w:=by
 unfold wpOp
 rw [ho]
 simp only [hw]
 exact hK
theorem unwantedNo {ops:Array Oper} {o:Oper} {tmps:Array Value} {k:Nat} {b:Bool} (hg:o.guard=some (k,b)) (hy:yielded ops tmps k=none):Region.wanted o (yielded ops tmps)=false:=by
 simp [Region.wanted,hg,hy]
theorem yieldedNo {ops:Array Oper} {a:Act} {k d:Nat} {o:Oper} (ho:ops[k]?=some o) (hd:o.dst=some d) (hv:a.eval (.tmp d)=undef):yielded ops a.tmps k=none:=by
 simp only [Act.eval,Array.getD_eq_getD_getElem?] at hv
 cases hq:a.tmps[d]? with
 | none=>simp [yielded,ho,hd,hq]
 | some v=>
  rw [hq] at hv
  simp at hv
  simp [yielded,ho,hd,hq,hv,undef]
end Go.Proofs.Ytjjegmflllpknaa.Aes

namespace Go.Proofs.Ytjjegmflllpknaa.By8
open Go.RowKit Gf8 Aes
/- Lists of bytes ([]byte), the bytes as whole numbers. -/
structure SliceN (w:World) (v:Value) (len:Nat) (p:Nat->Nat):Prop where
 shape:∃ a cap,v=.slice a len cap/\len<=cap/\cap < 9223372036854775808/\(0 < len->∃ b off,a=some ⟨b,off,none⟩/\b < w.heap.size/\∀ j,j < len->w.cell? ⟨b,off+j,none⟩=some (.int .u8 (p j)))
 bytes:∀ j,j < len->p j < 256
theorem cell_below {B:Nat} {w w':World} (h:Below B w w') {b o:Nat} (hb:b < B):w'.cell? ⟨b,o,none⟩=w.cell? ⟨b,o,none⟩:=h.cell (p:=⟨b,o,none⟩) hb
theorem SliceN.on {w w':World} {v:Value} {len:Nat} {p:Nat->Nat} (h:SliceN w v len p) (hb:Below w.heap.size w w'):SliceN w' v len p:=by
 obtain ⟨⟨a,cap,e,h1,h2,h3⟩,hp⟩:=h
 refine ⟨⟨a,cap,e,h1,h2,fun h0=>?_⟩,hp⟩
 obtain ⟨b,off,e1,e2,e3⟩:=h3 h0
 exact ⟨b,off,e1,Nat.lt_of_lt_of_le e2 hb.size,fun j hj=>by rw [cell_below hb e2]; exact e3 j hj⟩
theorem bytesL_one (n:Nat) (p:Nat->Nat):∀ u ∈ bytesL n p,u.oneCell'=true:=by
 intro u hu
 simp only [bytesL,List.mem_map] at hu
 obtain ⟨z,_,rfl⟩:=hu
 rfl
end Go.Proofs.Ytjjegmflllpknaa.By8
namespace Go.Proofs.Ytjjegmflllpknaa.Aes
open Go.RowKit Gf8 By8
theorem ownsRow_below {W W':World} {B n:Nat} {v:Value} {xs:List Value} (h:W.ownsRow B 5 1 v n xs) (hb:Below W.heap.size W W'):W'.ownsRow B 5 1 v n xs:=by
 refine ⟨h.1,?_⟩
 rcases h.2 with h | ⟨g,cap,cur,e,hB,hg,h1,h2,h3,h4⟩
 ·exact Or.inl h
 ·exact Or.inr ⟨g,cap,cur,e,hB,by rw [hb.block _ (Array.getElem?_eq_some_iff.1 hg).1]; exact hg,h1,h2,h3,h4⟩
section
variable {o:Oper} {a:Act} {w:World}
end
end Go.Proofs.Ytjjegmflllpknaa.Aes

namespace Go.Proofs.Ytjjegmflllpknaa.By8
open Go.RowKit Gf8 Aes
theorem SliceN.sub {w:World} {a:Option Addr} {len cap:Nat} {p:Nat->Nat} (hv:SliceN w (.slice a len cap) len p) (l h:Nat) (h1:l<=h) (h2:h<=len) :
  SliceN w (sliced a l h cap 1) (h - l) (fun j=>p (l+j)):=by
 obtain ⟨⟨a',cap',e,e1,e2,e3⟩,hp⟩:=hv
 obtain ⟨rfl,_,rfl⟩:a=a'/\len=len/\cap=cap':=by
  injection e with x y z
  exact ⟨x,rfl,z⟩
 refine ⟨⟨_,cap - l,rfl,by omega,by omega,fun h0=>?_⟩,fun j hj=>hp (l+j) (by omega)⟩
 obtain ⟨b,off,rfl,hb,hc⟩:=e3 (by omega)
 rw [if_neg (by omega)]
 refine ⟨b,off+l,?_,hb,fun j hj=>?_⟩
 ·simp [Addr.add]
 ·rw [Nat.add_assoc]; exact hc (l+j) (by omega)
section
variable {o:Oper} {a:Act} {w:World}
theorem execSubI {x y:Operand} {p q:Nat} (ho:o.op=.binOp .sub 3 x y 3) (hx:a.eval x=.int .i64 p) (hy:a.eval y=.int .i64 q) (h:q<=p) (hp:p < 9223372036854775808):(execOp a.eval o).run Try.prog w=.ok (.value (.int .i64 (p - q:Nat))) w:=by
 have e2:IntKind.i64.wrap ((p:Int) - q)=((p - q:Nat):Int):=by rw [show (p:Int) - q=((p - q:Nat):Int) by omega]; exact wrap_i64_nat (by omega)
 unfold execOp
 simp only [ho,hx,hy]
 simp [go_sem,e2]
theorem execMinI {x y:Operand} {p q:Nat} (ho:o.op=.call { callee:=.builtin .min,args:=#[x,y],argTypes:=#[3,3] }) (hx:a.eval x=.int .i64 p) (hy:a.eval y=.int .i64 q):(execOp a.eval o).run Try.prog w=.ok (.value (.int .i64 (min p q:Nat))) w:=by
 unfold execOp
 simp only [ho]
 simp [go_sem] at hx hy ⊢
 simp [hx,hy,go_sem]
 split <;> omega
end
end Go.Proofs.Ytjjegmflllpknaa.By8

namespace Go.Proofs.Ytjjegmflllpknaa.By8
open Go.RowKit
section
variable {P:Program} (w:World)
end
end Go.Proofs.Ytjjegmflllpknaa.By8
namespace Go.Proofs.Ytjjegmflllpknaa.Aes
open Go.RowKit Gf8 By8
theorem sliced_0 (F len cap:Nat):sliced (some ⟨F,0,none⟩) 0 len cap 1=.slice (some ⟨F,0,none⟩) len cap:=by
 unfold sliced
 by_cases h:cap=0
 ·rw [if_pos h]; rfl
 ·rw [if_neg h]
  simp [Addr.add]
def Dis (u v:Value):Prop:=∀ k,u.ownBlock=some k->v.ownBlock ≠ some k
theorem Dis.symm {u v:Value} (h:Dis u v):Dis v u:=fun k h1 h2=>h k h2 h1
theorem own_base {W:World} {B C n:Nat} {v:Value} {xs:List Value} (h:W.ownsRow C 5 1 v n xs) (hB:B<=C):W.ownsRow B 5 1 v n xs:=by
 refine ⟨h.1,?_⟩
 rcases h.2 with h | ⟨g,cap,cur,e,hC,h2⟩
 ·exact Or.inl h
 ·exact Or.inr ⟨g,cap,cur,e,Nat.le_trans hB hC,h2⟩
theorem dis_new {W W':World} {B n m:Nat} {u r:Value} {xs ys:List Value} (h:W.ownsRow B 5 1 u n xs) (h':W'.ownsRow W.heap.size 5 1 r m ys):Dis u r:=by
 intro k hk hr
 have h1:=(h.lt k hk).2
 have h2:=(h'.lt k hr).1
 omega
end Go.Proofs.Ytjjegmflllpknaa.Aes

namespace Go.Proofs.Ytjjegmflllpknaa.By8
open Go.RowKit Gf8 Aes
/- All but some blocks as they were; rows of lists. -/
structure Saved (G:Nat->Prop) (w w':World):Prop where
 os:w'.os=w.os
 tape:w'.tape=w.tape
 output:w'.output=w.output
 size:w.heap.size<=w'.heap.size
 block:∀ k,k < w.heap.size->¬ G k->w'.heap[k]?=w.heap[k]?
theorem Saved.refl (G:Nat->Prop) (w:World):Saved G w w:=⟨rfl,rfl,rfl,Nat.le_refl _,fun _ _ _=>rfl⟩
theorem Saved.below {G:Nat->Prop} {w w' w'':World} {B:Nat} (h:Saved G w w') (hb:Below B w' w'') (hB:w.heap.size<=B):Saved G w w'':=
 ⟨hb.os.trans h.os,hb.tape.trans h.tape,hb.output.trans h.output,Nat.le_trans h.size hb.size,fun k hk hG=>by rw [hb.block k (by omega),h.block k hk hG]⟩
theorem Saved.cell {G:Nat->Prop} {w w':World} (h:Saved G w w') {b o:Nat} (v:Value) (hG:w.heap.size<=b\/G b):Saved G w (w'.setCell ⟨b,o,none⟩ v):=by
 have hb:Below b w' (w'.setCell ⟨b,o,none⟩ v):=(Below.refl _ _).setCell (p:=⟨b,o,none⟩) (Nat.le_refl _) v
 refine ⟨hb.os.trans h.os,hb.tape.trans h.tape,hb.output.trans h.output,Nat.le_trans h.size hb.size,fun k hk hk2=>?_⟩
 rw [Below.heap_setCell _ _ _ _ (fun e=>by subst e; rcases hG with h | h; omega; exact hk2 h),h.block k hk hk2]
theorem Saved.grown {G:Nat->Prop} {w w' w'':World} {row:Option Nat} (h:Saved G w w') (hg:w'.grownBy w'' row) (hG:∀ k,row=some k->w.heap.size<=k\/G k):Saved G w w'':=
 ⟨hg.os.trans h.os,hg.tape.trans h.tape,hg.output.trans h.output,Nat.le_trans h.size hg.size,fun k hk hk2=>by
  rw [hg.block k (Nat.lt_of_lt_of_le hk h.size) (fun e=>by rcases hG k e.symm with h | h; omega; exact hk2 h),h.block k hk hk2]⟩
theorem bytesL_congr {n:Nat} {f g:Nat->Nat} (h:∀ j,j < n->f j=g j):bytesL n f=bytesL n g:=by
 unfold bytesL
 refine List.map_congr_left fun j hj=>?_
 rw [h j (List.mem_range.1 hj)]
end Go.Proofs.Ytjjegmflllpknaa.By8

namespace Go.Proofs.Ytjjegmflllpknaa.Cel
open Go.RowKit Gf8 Aes By8
/- CellKeeps: rows of one's own, many side by side; lists of lists. -/
structure Fam (B m:Nat) (x:Nat->Value) (nn:Nat->Nat) (ff:Nat->Nat->Nat) (W:World):Prop where
 rows:∀ t,t < m->W.ownsRow B 5 1 (x t) (nn t) (bytesL (nn t) (ff t))
 dis:∀ s t,s < m->t < m->s ≠ t->Dis (x s) (x t)
theorem Fam.none (B:Nat) (x:Nat->Value) (nn:Nat->Nat) (ff:Nat->Nat->Nat) (W:World):Fam B 0 x nn ff W:=⟨fun t h=>by omega,fun s t h=>by omega⟩
theorem Fam.on {B m:Nat} {x:Nat->Value} {nn:Nat->Nat} {ff:Nat->Nat->Nat} {W W':World} (h:Fam B m x nn ff W) (hb:Below W.heap.size W W'):Fam B m x nn ff W':=⟨fun t ht=>ownsRow_below (h.rows t ht) hb,h.dis⟩
def updX (x:Nat->Value) (m:Nat) (r:Value):Nat->Value:=fun t=>if t=m then r else x t
theorem updX_at (x:Nat->Value) (m:Nat) (r:Value):updX x m r m=r:=if_pos rfl
theorem updX_lt (x:Nat->Value) {m t:Nat} (r:Value) (h:t < m):updX x m r t=x t:=if_neg (by omega)
theorem Fam.add {B m:Nat} {x:Nat->Value} {nn:Nat->Nat} {ff:Nat->Nat->Nat} {W W':World} (h:Fam B m x nn ff W) (hb:Below W.heap.size W W') (hB:B<=W.heap.size) {r:Value} (hr:W'.ownsRow W.heap.size 5 1 r (nn m) (bytesL (nn m) (ff m))):Fam B (m+1) (updX x m r) nn ff W':=by
 refine ⟨fun t ht=>?_,fun s t hs ht hst=>?_⟩
 ·by_cases e:t=m
  ·subst e; rw [updX_at]; exact own_base hr hB
  ·rw [updX_lt _ _ (by omega)]; exact ownsRow_below (h.rows t (by omega)) hb
 ·by_cases e:t=m
  ·subst e
   rw [updX_at,updX_lt _ _ (by omega)]
   exact dis_new (h.rows s (by omega)) hr
  ·rw [updX_lt x r (show t < m by omega)]
   by_cases e2:s=m
   ·subst e2
    rw [updX_at]
    exact (dis_new (h.rows t (by omega)) hr).symm
   ·rw [updX_lt _ _ (by omega)]
    exact h.dis s t (by omega) (by omega) hst
section
variable {P:Program} (w:World)
end
def capV (v:Value):Nat:=match v with | .slice _ _ c=>c | _=>0
section
variable {P:Program} (w:World)
end
def gRF (f:Nat->Nat) (n:Nat):Nat->Nat:=fun l=>if l < n then f l else 238
theorem own_cap {W:World} {B n k:Nat} {v:Value} {xs:List Value} (h:W.ownsRow B 5 1 v n xs) (hk:v.ownBlock=some k):∃ c,W.heap[k]?=some (.cells c 5)/\c.size=capV v/\v=.slice (some ⟨k,0,none⟩) n (capV v)/\B<=k/\n<=capV v/\capV v<=maxLen/\c.toList.take n=xs:=by
 rcases h.2 with ⟨rfl,_⟩ | ⟨g,cap,cur,rfl,hB,hg,h1,h2,h3,ht⟩
 ·cases hk
 ·have e:g=k:=Option.some.inj hk
  subst e
  rw [Nat.mul_one] at h3 ht
  exact ⟨cur,hg,h3,rfl,hB,h1,h2,ht⟩
theorem Fam.grow {B m:Nat} {x:Nat->Value} {nn:Nat->Nat} {ff:Nat->Nat->Nat} {W W':World} (h:Fam B m x nn ff W) {i k:Nat} (hi:i < m) {u v':Value} (hu:W.ownsRow B 5 1 u (nn i+k) (bytesL (nn i+k) (gRF (ff i) (nn i)))) (pl:u.ownBlock=(x i).ownBlock\/∀ t,t < m->Dis u (x t))
  (hv:W'.ownsRow B 5 1 v' (nn i+k+1) (bytesL (nn i+k+1) (gRF (ff i) (nn i)))) (hp:(v'.ownBlock=u.ownBlock/\W.grownBy W' u.ownBlock/\capV v'=capV u)\/(v'.ownBlock=some W.heap.size/\W.grownBy W' Option.none)) :
  Fam B m x nn ff W'/\(v'.ownBlock=(x i).ownBlock\/∀ t,t < m->Dis v' (x t)):=by
 rcases hp with ⟨e,hg,hc⟩ | ⟨e,hg⟩
 ·refine ⟨⟨fun t ht=>?_,h.dis⟩,?_⟩
  ·cases hq:(x t).ownBlock with
   | none=>exact (h.rows t ht).kept hg (.inl hq)
   | some b=>
    by_cases hub:u.ownBlock=some b
    ·have et:t=i:=by
      rcases pl with pl | pl
      ·rw [pl] at hub
       cases Nat.decEq t i with
       | isTrue h1=>exact h1
       | isFalse h1=>exact absurd hub (h.dis t i ht hi h1 b hq)
      ·exact absurd hq (pl t ht b hub)
     subst et
     obtain ⟨c1,g1,s1,v1,B1,n1,m1,t1⟩:=own_cap (h.rows t ht) hq
     obtain ⟨c2,g2,s2,v2,_⟩:=own_cap hu hub
     obtain ⟨c3,g3,s3,v3,_,n3,m3,t3⟩:=own_cap hv (by rw [e]; exact hub)
     have ecap:capV (x t)=capV v':=by
      rw [g1] at g2
      have:c1=c2:=by simpa using g2
      rw [hc,← s1,← s2,this]
     refine ⟨by rw [bytesL_len,Nat.mul_one],.inr ⟨b,capV (x t),c3,v1,B1,g3,n1,m1,by rw [Nat.mul_one,s3,ecap],?_⟩⟩
     rw [Nat.mul_one]
     have h4:c3.toList.take (nn t)=(c3.toList.take (nn t+k+1)).take (nn t):=by rw [List.take_take,Nat.min_eq_left (by omega)]
     rw [h4,t3]
     unfold bytesL
     rw [← List.map_take,List.take_range,Nat.min_eq_left (by omega)]
     apply List.map_congr_left
     intro l hl
     have:=List.mem_range.1 hl
     unfold gRF
     rw [if_pos this]
    ·exact (h.rows t ht).kept hg (.inr fun q=>hub (by rw [← q]; exact hq))
  ·rcases pl with pl | pl
   ·exact .inl (e.trans pl)
   ·exact .inr fun t ht b hb=>pl t ht b (by rw [← e]; exact hb)
 ·refine ⟨⟨fun t ht=>(h.rows t ht).kept hg (by cases (x t).ownBlock <;> simp),h.dis⟩,.inr fun t ht b hb q=>?_⟩
  rw [e] at hb
  have:=Option.some.inj hb
  have:=((h.rows t ht).lt b q).2
  omega
end Go.Proofs.Ytjjegmflllpknaa.Cel

namespace Go.Proofs.Ytjjegmflllpknaa.Cel
open Go.RowKit Gf8 Aes By8
/- Lists of their own, of any lengths, that are marked and grown apart. -/
def gM (f:Nat->Nat) (n z:Nat):Nat->Nat:=fun l=>if l < n then f l else z
structure ApN (B m:Nat) (nn:Nat->Nat) (x:Nat->Value) (ff:Nat->Nat->Nat) (zz:Nat->Nat) (gv:Nat->Value) (gl:Nat->Nat) (W:World):Prop where
 fam:Fam B m x nn ff W
 grown:∀ t,t < m->W.ownsRow B 5 1 (gv t) (gl t) (bytesL (gl t) (gM (ff t) (nn t) (zz t)))
 le:∀ t,t < m->nn t<=gl t
 at':∀ t,t < m->(gv t).ownBlock=(x t).ownBlock\/∀ s,s < m->Dis (gv t) (x s)
 dis:∀ s t,s < m->t < m->s ≠ t->Dis (gv s) (gv t)
theorem ApN.begin {B m:Nat} {nn:Nat->Nat} {x:Nat->Value} {ff:Nat->Nat->Nat} {zz:Nat->Nat} {W:World} (h:Fam B m x nn ff W):ApN B m nn x ff zz x nn W:=
 ⟨h,fun t ht=>by
  have e:bytesL (nn t) (gM (ff t) (nn t) (zz t))=bytesL (nn t) (ff t):=bytesL_congr fun l hl=>if_pos hl
  rw [e]
  exact h.rows t ht,fun _ _=>Nat.le_refl _,fun _ _=>Or.inl rfl,h.dis⟩
theorem ApN.on {B m:Nat} {nn:Nat->Nat} {x:Nat->Value} {ff:Nat->Nat->Nat} {zz:Nat->Nat} {gv:Nat->Value} {gl:Nat->Nat} {W W':World} (h:ApN B m nn x ff zz gv gl W) (hb:Below W.heap.size W W'):ApN B m nn x ff zz gv gl W':=
 ⟨h.fam.on hb,fun t ht=>ownsRow_below (h.grown t ht) hb,h.le,h.at',h.dis⟩
theorem ApN.grow {B m:Nat} {nn:Nat->Nat} {x:Nat->Value} {ff:Nat->Nat->Nat} {zz:Nat->Nat} {gv:Nat->Value} {gl:Nat->Nat} {W W':World} (h:ApN B m nn x ff zz gv gl W) {i k:Nat} (hi:i < m) {v':Value}
  (hv:W'.ownsRow B 5 1 v' (gl i+k) (bytesL (gl i+k) (gM (ff i) (nn i) (zz i)))) (hp:(v'.ownBlock=(gv i).ownBlock/\W.grownBy W' (gv i).ownBlock/\capV v'=capV (gv i))\/(v'.ownBlock=some W.heap.size/\W.grownBy W' Option.none)) :
  ApN B m nn x ff zz (updX gv i v') (fun t=>if t=i then gl i+k else gl t) W':=by
 have hle:=h.le i hi
 rcases hp with ⟨e,hg,hc⟩ | ⟨e,hg⟩
 ·have keep:∀ t,t < m->t ≠ i->W'.ownsRow B 5 1 (gv t) (gl t) (bytesL (gl t) (gM (ff t) (nn t) (zz t))):=fun t ht hne=>by
   refine (h.grown t ht).kept hg ?_
   cases hq:(gv t).ownBlock with
   | none=>exact Or.inl rfl
   | some b=>exact Or.inr (fun q=>h.dis t i ht hi hne b hq q.symm)
  refine ⟨⟨fun t ht=>?_,h.fam.dis⟩,fun t ht=>?_,fun t ht=>?_,fun t ht=>?_,fun s t hs ht hst=>?_⟩
  ·cases hq:(x t).ownBlock with
   | none=>exact (h.fam.rows t ht).kept hg (.inl hq)
   | some b=>
    by_cases hub:(gv i).ownBlock=some b
    ·have et:t=i:=by
      rcases h.at' i hi with pl | pl
      ·rw [pl] at hub
       cases Nat.decEq t i with
       | isTrue h1=>exact h1
       | isFalse h1=>exact absurd hub (h.fam.dis t i ht hi h1 b hq)
      ·exact absurd hq (pl t ht b hub)
     subst et
     obtain ⟨c1,g1,s1,v1,B1,n1,m1,t1⟩:=own_cap (h.fam.rows t ht) hq
     obtain ⟨c2,g2,s2,v2,_⟩:=own_cap (h.grown t ht) hub
     obtain ⟨c3,g3,s3,v3,_,n3,m3,t3⟩:=own_cap hv (by rw [e]; exact hub)
     have ecap:capV (x t)=capV v':=by
      rw [g1] at g2
      have:c1=c2:=by simpa using g2
      rw [hc,← s1,← s2,this]
     refine ⟨by rw [bytesL_len,Nat.mul_one],.inr ⟨b,capV (x t),c3,v1,B1,g3,n1,m1,by rw [Nat.mul_one,s3,ecap],?_⟩⟩
     rw [Nat.mul_one]
     have h4:c3.toList.take (nn t)=(c3.toList.take (gl t+k)).take (nn t):=by rw [List.take_take,Nat.min_eq_left (by omega)]
     rw [h4,t3]
     unfold bytesL
     rw [← List.map_take,List.take_range,Nat.min_eq_left (by omega)]
     apply List.map_congr_left
     intro l hl
     have:=List.mem_range.1 hl
     unfold gM
     rw [if_pos this]
    ·exact (h.fam.rows t ht).kept hg (.inr fun q=>hub (by rw [← q]; exact hq))
  ·by_cases et:t=i
   ·subst et
    rw [updX_at]
    simp only [if_true]
    exact hv
   ·unfold updX
    simp only [if_neg et]
    exact keep t ht et
  ·by_cases et:t=i
   ·subst et; simp only [if_true]; omega
   ·simp only [if_neg et]; exact h.le t ht
  ·by_cases et:t=i
   ·subst et
    rw [updX_at]
    rcases h.at' t ht with pl | pl
    ·exact .inl (e.trans pl)
    ·exact .inr fun s hs b hb=>pl s hs b (by rw [← e]; exact hb)
   ·unfold updX
    simp only [if_neg et]
    exact h.at' t ht
  ·unfold updX
   by_cases e1:s=i
   ·have e2:t ≠ i:=fun q=>hst (e1.trans q.symm)
    simp only [if_pos e1,if_neg e2]
    intro b hb
    exact h.dis i t hi ht (fun q=>e2 q.symm) b (by rw [← e]; exact hb)
   ·by_cases e2:t=i
    ·simp only [if_neg e1,if_pos e2]
     intro b hb hq
     exact h.dis s i hs hi e1 b hb (by rw [← e]; exact hq)
    ·simp only [if_neg e1,if_neg e2]
     exact h.dis s t hs ht hst
 ·have old:∀ {v:Value} {n:Nat} {xs:List Value},W.ownsRow B 5 1 v n xs->W'.ownsRow B 5 1 v n xs:=fun {v} {n} {xs} hw=>hw.kept hg (by cases v.ownBlock <;> simp)
  have new:∀ {v:Value} {n:Nat} {xs:List Value},W.ownsRow B 5 1 v n xs->Dis v' v:=fun {v} {n} {xs} hw b hb q=>by
   rw [e] at hb
   have:=Option.some.inj hb
   have:=(hw.lt b q).2
   omega
  refine ⟨⟨fun t ht=>old (h.fam.rows t ht),h.fam.dis⟩,fun t ht=>?_,fun t ht=>?_,fun t ht=>?_,fun s t hs ht hst=>?_⟩
  ·by_cases et:t=i
   ·subst et
    rw [updX_at]
    simp only [if_true]
    exact hv
   ·unfold updX
    simp only [if_neg et]
    exact old (h.grown t ht)
  ·by_cases et:t=i
   ·subst et; simp only [if_true]; omega
   ·simp only [if_neg et]; exact h.le t ht
  ·by_cases et:t=i
   ·subst et
    rw [updX_at]
    exact .inr fun s hs=>new (h.fam.rows s hs)
   ·unfold updX
    simp only [if_neg et]
    exact h.at' t ht
  ·unfold updX
   by_cases e1:s=i
   ·have e2:t ≠ i:=fun q=>hst (e1.trans q.symm)
    simp only [if_pos e1,if_neg e2]
    exact new (h.grown t ht)
   ·by_cases e2:t=i
    ·simp only [if_neg e1,if_pos e2]
     exact (new (h.grown s hs)).symm
    ·simp only [if_neg e1,if_neg e2]
     exact h.dis s t hs ht hst
end Go.Proofs.Ytjjegmflllpknaa.Cel
