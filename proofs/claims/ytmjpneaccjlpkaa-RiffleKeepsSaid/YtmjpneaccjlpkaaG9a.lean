import Derived.Test.YtmjpneaccjlpkaaX7b
import Derived.Test.YtmjpneaccjlpkaaX7f
import Derived.Test.YtmjpneaccjlpkaaE9a
import Derived.Laws.IdiomStrings
import Derived.Laws.Strings2
import Derived.Lib.Bytes
namespace Go.Proofs.Ytmjpneaccjlpkaa.Tap
open Go.RowKit Gf8 Aes By8 Cel
/- Layer 9 (tape): the law's place and same, the reference's Byte, Take, copied. -/
set_option maxRecDepth 20000 in
theorem copied_any (p:Nat->Nat) (len:Nat) (v:Value) (V:World) (hv:SliceN V v len p) (hnil:∀ l c,v=.slice none l c->c=0) (hl:len<=140737488351232) :
  Calls Try.prog 55 #[v] V fun e w'=>∃ r,e=.returned r/\w'.ownsRow V.heap.size 5 1 r len (bytesL len p)/\Below V.heap.size V w':=by
 have HV:Hid (SliceN V v len p):=hv
 have HN:Hid (∀ l c,v=.slice none l c->c=0):=hnil
 clear hv hnil
 go_enter Try.func55,Try.ntmps55
 go_wp2_with (first
  | (refine atAppB (.tmp 4) (.tmp 5) rfl ?_; go_must (refine wpList_appS (B:=V.heap.size) (n:=0) (m:=len) (p:=p) rfl (.tmp 4) (.tmp 5) rfl rfl rfl (World.ownsRow_nil _ _ _ _) (sliceN_cg HV.out fun j _=>by rw [Nat.zero_add]) HN.out (by omega) (Nat.le_refl _) ?_; intro u1 W1 own1 gr1; have b1:Below V.heap.size V W1:=below_grown (Below.refl _ _) (Nat.le_refl _) (World.ownsRow_nil V V.heap.size 5 1) gr1; rw [Nat.zero_add] at own1; clear gr1)))
 go_ret
 exact ⟨_,rfl,own1,b1⟩
theorem nil_sub {a:Option Addr} {l h cap:Nat} (hz:a=none->cap=0):∀ k c,sliced a l h cap 1=.slice none k c->c=0:=by
 intro k c e
 unfold sliced at e
 injection e with e1 _ e3
 cases a with
 | none=>rw [hz rfl] at e3; omega
 | some x=>
  by_cases q:cap=l
  ·rw [q] at e1; simp at e1
  ·simp [q] at e1
end Go.Proofs.Ytmjpneaccjlpkaa.Tap

namespace Go.Proofs.Ytmjpneaccjlpkaa.Tap
open Go.RowKit Gf8 Aes By8 Cel Cf
/- Strings of bytes: one of them, a piece, and back to a list; rows that bear a conversion's mark. -/
theorem strN_size (p:Nat->Nat) (n:Nat):(strN p n).size=n:=by
 unfold strN
 rw [strOfNums_size]
 unfold numL
 simp
theorem strN_list (p:Nat->Nat) (n:Nat):(strN p n).data.toList=(List.range n).map fun i=>UInt8.ofNat (p i):=by
 unfold strN
 rw [strOfNums_data]
 unfold numL
 rw [List.map_map]
 apply List.map_congr_left
 intro i _
 simp
theorem strN_at (p:Nat->Nat) (n i:Nat) (hi:i < n) (hp:p i < 256) (h:i < (strN p n).data.size):((strN p n).data[i]'h).toNat=p i:=by
 have e:(strN p n).data[i]?=some (UInt8.ofNat (p i)):=by
  rw [← Array.getElem?_toList,strN_list]
  simp [hi]
 rw [Array.getElem?_eq_getElem h] at e
 rw [Option.some.inj e]
 simp [hp]
section
variable {o:Oper} {a:Act} {w:World}
theorem execLenSt {x:Operand} {p:Nat->Nat} {n:Nat} (ho:o.op=.call { callee:=.builtin .len,args:=#[x],argTypes:=#[9] }) (hx:a.eval x=.string (strN p n)):(execOp a.eval o).run Try.prog w=.ok (.value (.int .i64 (n:Int))) w:=by
 unfold execOp
 simp only [ho,resolve,invoke,builtin,Sem.run_bind,Sem.run_pure,Result.andThen_ok,List.map_toArray,List.map_cons,List.map_nil,hx]
 simp [go_sem,strN_size]
set_option maxRecDepth 100000 in
theorem execIdxSt {x y:Operand} {p:Nat->Nat} {n i:Nat} (ho:o.op=.index 9 x y) (hx:a.eval x=.string (strN p n)) (hy:a.eval y=.int .i64 (i:Int)) (hi:i < n) (hp:p i < 256):(execOp a.eval o).run Try.prog w=.ok (.value (.int .u8 (p i:Nat))) w:=by
 unfold execOp
 simp only [ho,hx,hy]
 have h:=run_index_string (P:=Try.prog) w 9 (strN p n) .i64 (i:Int) Try.underlying9
 rw [dif_pos ⟨by omega,by rw [strN_size]; omega⟩] at h
 simp only [Sem.run_bind,h,Result.andThen_ok,Sem.run_pure]
 congr 3
 have hs:i < (strN p n).data.size:=by have:=strN_size p n; simp only [ByteArray.size] at this; omega
 have:=strN_at p n i hi hp hs
 rw [← this]
 rfl
end
def OwnM (W:World) (B:Nat) (v:Value) (n:Nat) (p:Nat->Nat):Prop:=
 ∃ g cap cur fz,v=.slice (some ⟨g,0,none⟩) n cap/\B<=g/\W.heap[g]?=some (.cells cur 5 fz)/\n<=cap/\cap<=maxLen/\cur.size=cap/\(∀ j,j < n->cur[j]?=some (.int .u8 (p j:Nat)))/\(∀ j,j < n->p j < 256)/\(cap<=fz.1\/fz.2=0)
theorem OwnM.slice {W:World} {B n:Nat} {v:Value} {p:Nat->Nat} (h:OwnM W B v n p):SliceN W v n p:=by
 obtain ⟨g,cap,cur,fz,rfl,hB,hg,h1,h2,h3,h4,h5,h6⟩:=h
 refine ⟨⟨_,_,rfl,h1,by unfold maxLen at h2; omega,fun _=>⟨g,0,rfl,(Array.getElem?_eq_some_iff.1 hg).1,fun j hj=>?_⟩⟩,h5⟩
 rw [cell_of_row _ _ _ _ _ _ hg,Nat.zero_add]
 exact h4 j hj
theorem OwnM.on {W W':World} {B n:Nat} {v:Value} {p:Nat->Nat} (h:OwnM W B v n p) (hb:Below W.heap.size W W'):OwnM W' B v n p:=by
 obtain ⟨g,cap,cur,fz,rfl,hB,hg,hr⟩:=h
 exact ⟨g,cap,cur,fz,rfl,hB,by rw [hb.block _ (Array.getElem?_eq_some_iff.1 hg).1]; exact hg,hr⟩
theorem OwnM.base {W:World} {B C n:Nat} {v:Value} {p:Nat->Nat} (h:OwnM W C v n p) (hB:B<=C):OwnM W B v n p:=by
 obtain ⟨g,cap,cur,fz,e,h1,hr⟩:=h
 exact ⟨g,cap,cur,fz,e,Nat.le_trans hB h1,hr⟩
end Go.Proofs.Ytmjpneaccjlpkaa.Tap

namespace Go.Proofs.Ytmjpneaccjlpkaa.Tap
open Go.RowKit Gf8 Aes By8 Cel Cf
/- The program's Tape: New, Left, Used, behind. -/
theorem results_cell9 {P:Program} {fn:Func} {p:Tmp} {ty:TypeId} (h:fn.results=#[.cell p ty]) (tmps:Array Value) (w:World) (g:Nat) (t:TypeId) (cs:Array Value) (fr:Nat × Nat) (d:TypeDesc)
  (hp:tmps.getD p undef=.pointer (some ⟨g,0,none⟩)) (hg:w.heap[g]?=some (.cells cs t fr))
  (hu:P.underlying ty=some d) (hd:(match d with | .struct _ | .array _ _=>true | _=>false)=true) (hi:(P.info? ty).map (·.size)=some cs.size) :
  (results fn tmps).run P w=.ok (.agg cs) w:=by
 have hp':tmps[p]?.getD undef=.pointer (some ⟨g,0,none⟩):=by simpa using hp
 simp [results,h,hp',asAddr,run_loadVar_row w g t ty cs fr d hg hu hd hi]
theorem results_ct9 {P:Program} {fn:Func} {p u:Tmp} {ty:TypeId} (h:fn.results=#[.cell p ty,.tmp u]) (tmps:Array Value) (w:World) (g:Nat) (t:TypeId) (cs:Array Value) (fr:Nat × Nat) (d:TypeDesc)
  (hp:tmps.getD p undef=.pointer (some ⟨g,0,none⟩)) (hg:w.heap[g]?=some (.cells cs t fr))
  (hu:P.underlying ty=some d) (hd:(match d with | .struct _ | .array _ _=>true | _=>false)=true) (hi:(P.info? ty).map (·.size)=some cs.size) :
  (results fn tmps).run P w=.ok (.tuple #[.agg cs,tmps.getD u undef]) w:=by
 have hp':tmps[p]?.getD undef=.pointer (some ⟨g,0,none⟩):=by simpa using hp
 simp [results,h,hp',asAddr,run_loadVar_row w g t ty cs fr d hg hu hd hi]
theorem results_tct9 {P:Program} {fn:Func} {p u v:Tmp} {ty:TypeId} (h:fn.results=#[.tmp v,.cell p ty,.tmp u]) (tmps:Array Value) (w:World) (g:Nat) (t:TypeId) (cs:Array Value) (fr:Nat × Nat) (d:TypeDesc)
  (hp:tmps.getD p undef=.pointer (some ⟨g,0,none⟩)) (hg:w.heap[g]?=some (.cells cs t fr))
  (hu:P.underlying ty=some d) (hd:(match d with | .struct _ | .array _ _=>true | _=>false)=true) (hi:(P.info? ty).map (·.size)=some cs.size) :
  (results fn tmps).run P w=.ok (.tuple #[tmps.getD v undef,.agg cs,tmps.getD u undef]) w:=by
 have hp':tmps[p]?.getD undef=.pointer (some ⟨g,0,none⟩):=by simpa using hp
 simp [results,h,hp',asAddr,run_loadVar_row w g t ty cs fr d hg hu hd hi]
def tpC (p:Nat->Nat) (l at':Nat):Array Value:=#[.string (strN p l),.int .i64 (at':Int)]
theorem size_tp (p:Nat->Nat) (l at':Nat):(Try.prog.info? 108).map (·.size)=some (tpC p l at').size:=by
 show _=some 2
 kernel_rfl
theorem tp_one (p:Nat->Nat) (l at':Nat):(tpC p l at').all (·.oneCell')=true:=by simp [tpC,Value.oneCell']
theorem tp_zero (p:Nat->Nat):tpC p 0 0=#[.string ⟨#[]⟩,.int .i64 0]:=rfl
theorem tpC_at {W:World} {g:Nat} {p:Nat->Nat} {l at':Nat} {t:TypeId} {fr:Nat × Nat} (h:W.heap[g]?=some (.cells (tpC p l at') t fr)):W.cell? ⟨g,0,none⟩=some (.string (strN p l))/\W.cell? ⟨g,1,none⟩=some (.int .i64 (at':Int)):=by
 refine ⟨?_,?_⟩
 ·rw [cell_of_row _ _ _ _ _ _ h]; rfl
 ·rw [cell_of_row _ _ _ _ _ _ h]; rfl
theorem two9 (W:World) (o q:Obj):((W.alloc o).alloc q).heap[W.heap.size]?=some o/\((W.alloc o).alloc q).heap[W.heap.size+1]?=some q:=by
 have h2:=heapNew (W.alloc o) q
 have e:(W.alloc o).heap.size=W.heap.size+1:=by simp
 refine ⟨?_,?_⟩
 ·rw [(belNew (W.alloc o) q).block _ (by omega)]
  exact heapNew W o
 ·rw [e] at h2
  exact h2
set_option maxRecDepth 20000 in
theorem new_any (p:Nat->Nat) (len:Nat) (v:Value) (V:World) (hv:SliceN V v len p) :
  Calls Try.prog 66 #[v] V fun e w'=>e=.returned (.agg (tpC p len 0))/\Below V.heap.size V w':=by
 have HV:Hid (SliceN V v len p):=hv
 clear hv
 go_enter Try.func66,Try.ntmps66
 go_wp2_with (first
  | (refine wpList_ex rfl (execStr rfl rfl (HV.out.on (belNew V _))) ?_))
 refine bodyPost_ret (results_cell9 (cs:=tpC p len 0) rfl _ _ V.heap.size 108 (0,0) _ rfl (heapNew V _) Try.underlying108 rfl (size_tp _ _ _)) rfl ⟨rfl,belNew V _⟩
set_option maxRecDepth 20000 in
theorem left_any (p:Nat->Nat) (l at':Nat) (V:World) (h:at'<=l) (hl:l<=140737488351232) :
  Calls Try.prog 87 #[.agg (tpC p l at')] V fun e w'=>e=.returned (.int .i64 ((l - at':Nat):Int))/\Below V.heap.size V w':=by
 have e:((l - at':Nat):Int)=(l:Int) - at':=by omega
 rw [e]
 clear e
 go_enter Try.func87,Try.ntmps87
 unfold tpC
 go_wp2_with (first
  | (refine wpList_ex rfl (execLenSt (p:=p) (n:=l) rfl rfl) ?_))
 go_ret
 exact ⟨rfl,belNew V _⟩
set_option maxRecDepth 20000 in
theorem used_any (p:Nat->Nat) (l at':Nat) (V:World) :
  Calls Try.prog 68 #[.agg (tpC p l at')] V fun e w'=>e=.returned (.int .i64 (at':Int))/\Below V.heap.size V w':=by
 go_enter Try.func68,Try.ntmps68
 unfold tpC
 go_wp2
 go_ret
 exact ⟨rfl,belNew V _⟩
set_option maxRecDepth 20000 in
theorem behind_any (p:Nat->Nat) (l at' n:Nat) (V:World) (h:at'+n<=l) (hl:l<=140737488351232) :
  Calls Try.prog 88 #[.agg (tpC p l at'),.int .i64 (n:Int)] V fun e w'=>e=.returned (.agg (tpC p l (at'+n)))/\Below V.heap.size V w':=by
 have w2:IntKind.i64.wrap ((at':Int)+n)=((at'+n:Nat):Int):=by simp [IntKind.wrap,IntKind.bits,IntKind.signed]; omega
 go_enter Try.func88,Try.ntmps88
 unfold tpC
 go_wp2
 have e:((at':Int)+n)=((at'+n:Nat):Int):=by omega
 rw [e]
 refine bodyPost_ret (results_cell9 (cs:=tpC p l (at'+n)) rfl _ _ (V.heap.size+1) 108 (0,0) _ rfl (two9 V _ _).2 Try.underlying108 rfl (size_tp _ _ _)) rfl ⟨rfl,(belNew V _).trans ((belNew _ _).mono (belNew V _).size)⟩
section
variable {o:Oper} {a:Act} {w:World}
theorem execStTp {x y:Operand} {g:Nat} {p:Nat->Nat} {l at':Nat} {cur:Array Value} {t:TypeId} (ho:o.op=.store 108 x y) (hx:a.eval x=.pointer (some ⟨g,0,none⟩)) (hy:a.eval y=.agg (tpC p l at')) (hg:w.heap[g]?=some (.cells cur t)) (hs:cur.size=2) :
  (execOp a.eval o).run Try.prog w=.ok .skip (w.setRow g (tpC p l at')):=by
 have h:=execStMid (P:=Try.prog) ho hx hy hg (by rw [hs]; exact Nat.le_refl _) (size_tp _ _ _) (tp_one _ _ _)
 have e:(cur.toList.take 0 ++ (tpC p l at').toList ++ cur.toList.drop (0+(tpC p l at').size)).toArray=tpC p l at':=by
  rw [List.take_zero,List.nil_append,Nat.zero_add,List.drop_of_length_le (by rw [Array.length_toList,hs]; exact Nat.le_refl _),List.append_nil]
 rw [e] at h
 exact h
theorem execLdTp {x:Operand} {g:Nat} {p:Nat->Nat} {l at':Nat} {t:TypeId} {fr:Nat × Nat} (ho:o.op=.load 108 x) (hx:a.eval x=.pointer (some ⟨g,0,none⟩)) (hg:w.heap[g]?=some (.cells (tpC p l at') t fr)) :
  (execOp a.eval o).run Try.prog w=.ok (.value (.agg (tpC p l at'))) w:=by
 have h:=execLoadMid (P:=Try.prog) (w:=w) (cs:=(tpC p l at').toList) ho hx (fun j v hj=>by rw [cell_of_row _ _ _ _ _ _ hg,Nat.zero_add,← Array.getElem?_toList]; exact hj) Try.underlying108 rfl (size_tp _ _ _)
 exact h
theorem execFldTp0 {x:Operand} {b:Nat} (ho:o.op=.fieldAddr 108 x 0) (hx:a.eval x=.pointer (some ⟨b,0,none⟩)):(execOp a.eval o).run Try.prog w=.ok (.value (.pointer (some ⟨b,0,none⟩))) w:=by
 unfold execOp
 simp only [ho,hx]
 simp [go_sem]
theorem execFldTp1 {x:Operand} {b:Nat} (ho:o.op=.fieldAddr 108 x 1) (hx:a.eval x=.pointer (some ⟨b,0,none⟩)):(execOp a.eval o).run Try.prog w=.ok (.value (.pointer (some ⟨b,1,none⟩))) w:=by
 unfold execOp
 simp only [ho,hx]
 simp [go_sem]
theorem execLd9 {x:Operand} {b f:Nat} {s:ByteArray} (ho:o.op=.load 9 x) (hx:a.eval x=.pointer (some ⟨b,f,none⟩)) (hc:w.cell? ⟨b,f,none⟩=some (.string s)):(execOp a.eval o).run Try.prog w=.ok (.value (.string s)) w:=by
 unfold execOp
 simp only [ho,hx]
 simp [go_sem,hc]
theorem execLd3 {x:Operand} {b f:Nat} {v:Int} (ho:o.op=.load 3 x) (hx:a.eval x=.pointer (some ⟨b,f,none⟩)) (hc:w.cell? ⟨b,f,none⟩=some (.int .i64 v)):(execOp a.eval o).run Try.prog w=.ok (.value (.int .i64 v)) w:=by
 unfold execOp
 simp only [ho,hx]
 simp [go_sem,hc]
theorem execAllTp (ho:o.op=.alloc 108) (p:Nat->Nat):(execOp a.eval o).run Try.prog w=.ok (.value (.pointer (some ⟨w.heap.size,0,none⟩))) (w.alloc (.cells (tpC p 0 0) 108)):=by
 rw [tp_zero]
 unfold execOp
 simp only [ho]
 simp [go_sem]
theorem execBoxTp {x:Operand} {p:Nat->Nat} {l at':Nat} (ho:o.op=.box 108 x) (hx:a.eval x=.agg (tpC p l at')):(execOp a.eval o).run Try.prog w=.ok (.value (.pointer (some ⟨w.heap.size,0,none⟩))) (w.alloc (.cells (tpC p l at') 108)):=by
 unfold execOp
 simp only [ho,hx]
 simp [go_sem,tpC]
end
end Go.Proofs.Ytmjpneaccjlpkaa.Tap

namespace Go.Proofs.Ytmjpneaccjlpkaa.Tap
open Go.RowKit Gf8 Aes By8 Cel Cf
/- The program's Byte and Take. Written by tools/mkV9l.py. -/
theorem on9 {W X:World} {g:Nat} {c:Obj} (h:W.heap[g]?=some c) (b:Below W.heap.size W X):X.heap[g]?=some c:=by rw [b.block _ (Array.getElem?_eq_some_iff.1 h).1]; exact h
section
variable {o:Oper} {a:Act} {w:World}
theorem execEqN {x y:Operand} {p q:Nat} (ho:o.op=.binOp .eql 3 x y 3) (hx:a.eval x=.int .i64 (p:Int)) (hy:a.eval y=.int .i64 (q:Int)):(execOp a.eval o).run Try.prog w=.ok (.value (.bool (decide (p=q)))) w:=by
 unfold execOp
 simp only [ho,hx,hy]
 by_cases h:p=q
 ·subst h
  simp [go_sem]
 ·have h2:¬ (p:Int)=q:=by omega
  simp [go_sem,h,h2]
theorem execEqE {x y:Operand} {p q:Nat} (ho:o.op=.binOp .eql 25 x y 25) (hx:a.eval x=.int .i64 (p:Int)) (hy:a.eval y=.int .i64 (q:Int)):(execOp a.eval o).run Try.prog w=.ok (.value (.bool (decide (p=q)))) w:=by
 unfold execOp
 simp only [ho,hx,hy]
 by_cases h:p=q
 ·subst h
  simp [go_sem]
 ·have h2:¬ (p:Int)=q:=by omega
  simp [go_sem,h,h2]
theorem execNeN {x y:Operand} {p q:Nat} (ho:o.op=.binOp .neq 3 x y 3) (hx:a.eval x=.int .i64 (p:Int)) (hy:a.eval y=.int .i64 (q:Int)):(execOp a.eval o).run Try.prog w=.ok (.value (.bool (decide (p ≠ q)))) w:=by
 unfold execOp
 simp only [ho,hx,hy]
 by_cases h:p=q
 ·subst h
  simp [go_sem]
 ·have h2:¬ (p:Int)=q:=by omega
  simp [go_sem,h,h2]
theorem execNeE {x y:Operand} {p q:Nat} (ho:o.op=.binOp .neq 25 x y 25) (hx:a.eval x=.int .i64 (p:Int)) (hy:a.eval y=.int .i64 (q:Int)):(execOp a.eval o).run Try.prog w=.ok (.value (.bool (decide (p ≠ q)))) w:=by
 unfold execOp
 simp only [ho,hx,hy]
 by_cases h:p=q
 ·subst h
  simp [go_sem]
 ·have h2:¬ (p:Int)=q:=by omega
  simp [go_sem,h,h2]
theorem execGtN {x y:Operand} {p q:Nat} (ho:o.op=.binOp .gtr 3 x y 3) (hx:a.eval x=.int .i64 (p:Int)) (hy:a.eval y=.int .i64 (q:Int)):(execOp a.eval o).run Try.prog w=.ok (.value (.bool (decide (q < p)))) w:=by
 unfold execOp
 simp only [ho,hx,hy]
 by_cases h:q < p
 ·simp [go_sem,h]
 ·simp [go_sem,h]
theorem execBldTp (ho:o.op=.build 108 #[]) (p:Nat->Nat):(execOp a.eval o).run Try.prog w=.ok (.value (.agg (tpC p 0 0))) w:=by
 rw [tp_zero]
 unfold execOp
 simp only [ho]
 simp [go_sem]
end
set_option maxRecDepth 100000 in
set_option maxHeartbeats 4000000 in
theorem byte_ok (p:Nat->Nat) (l at':Nat) (V:World) (h:at' < l) (hl:l<=140737488351232) (hp:∀ j,j < l->p j < 256) :
  Calls Try.prog 85 #[.agg (tpC p l at')] V fun e w'=>e=.returned (.tuple #[.int .u8 ((p at':Nat):Int),.agg (tpC p l (at'+1)),.int .i64 ((0:Nat):Int)])/\Below V.heap.size V w':=by
 obtain ⟨V1,hV1⟩:∃ V1,V1=V.alloc (.cells (tpC p l at') 108):=⟨_,rfl⟩
 obtain ⟨V2,hV2⟩:∃ V2,V2=V1.alloc (.cells (tpC p 0 0) 108):=⟨_,rfl⟩
 have r0:V1.heap[V.heap.size]?=some (.cells (tpC p l at') 108):=by rw [hV1]; exact heapNew V _
 have b1:Below V.heap.size V V1:=by rw [hV1]; exact belNew V _
 have r1:V2.heap[V1.heap.size]?=some (.cells (tpC p 0 0) 108):=by rw [hV2]; exact heapNew V1 _
 have b2:Below V1.heap.size V1 V2:=by rw [hV2]; exact belNew V1 _
 have r0:=on9 r0 b2
 have bV:Below V.heap.size V V2:=b1.trans (b2.mono b1.size)
 have hat:at'<=l:=by omega
 have ne0:V.heap.size ≠ V1.heap.size:=by rw [hV1]; simp
 go_enter Try.func85,Try.ntmps85
 refine wp_seq ?_
 refine wp_region_sqW 16 [(0,1),(1,2),(2,3),(3,4)] (fun i_=>match i_ with | 0=>.pointer (some ⟨V.heap.size,0,none⟩) | 1=>.int .u8 0 | 2=>.pointer (some ⟨V1.heap.size,0,none⟩) | 3=>.int .i64 0 | _=>undef) (fun i_=>match i_ with | 0=>V | 1=>V1 | 2=>V1 | _=>V2) rfl (by kernel_rfl) (by decide) (by decide) ?_ ?_
 ·intro i_ hi_ a hf hv hn
  match i_,hi_ with
  | 0,_=>exact stepV rfl rfl (by rw [hV1]; exact execBoxTp rfl ((hf 0 (by decide)).trans rfl)) ⟨⟨_,rfl,rfl⟩,rfl⟩
  | 1,_=>exact stepV rfl rfl (execAsgB rfl rfl) ⟨⟨_,rfl,rfl⟩,rfl⟩
  | 2,_=>exact stepV rfl rfl (by rw [hV2]; exact execAllTp rfl p) ⟨⟨_,rfl,rfl⟩,rfl⟩
  | 3,_=>exact stepV rfl rfl (execAsgB rfl rfl) ⟨⟨_,rfl,rfl⟩,rfl⟩
  | k_+4,h_=>exact absurd h_ (by simp)
 intro a h1 h2 h3 h4
 have t1:a.eval (.tmp 1)=.pointer (some ⟨V.heap.size,0,none⟩):=h4 0 _ rfl _ rfl
 have t3:a.eval (.tmp 3)=.pointer (some ⟨V1.heap.size,0,none⟩):=h4 2 _ rfl _ rfl
 have A:a.tmps.size=16/\a.defers=[]:=⟨h1,h2⟩
 clear h1 h2 h3 h4
 refine wp_seq (wp_seq ?_)
 refine wp_region_sq (σ:=Unit) 16 [(0,5),(1,6),(2,7)] (fun j_ s X=>Below V2.heap.size V2 X/\(match j_ with | 0=>True | 1=>True | 2=>True | _=>True)) (fun s=>fun i_=>match i_ with | 0=>.agg (tpC p l at') | 1=>.int .i64 ((l - at':Nat):Int) | 2=>.bool (decide (l - at'=0)) | _=>undef) () A.1 (by kernel_rfl) (by decide) (by decide) ⟨Below.refl _ _,trivial⟩ ?_ ?_
 ·intro i_ hi_ s a X hf hv hn hS
  match i_,hi_ with
  | 0,_=>exact stepV rfl rfl (execLdTp rfl ((hf 1 (by decide)).trans t1) (on9 r0 hS.1)) ⟨s,⟨_,rfl,rfl⟩,hS,fun _ _=>rfl⟩
  | 1,_=>
   refine stepC rfl rfl (execCall1 Try.func87 (by kernel_rfl) (by kernel_rfl) rfl (hv 0 (by omega) _ rfl _ rfl)) (left_any p l at' X hat hl) fun e w' hh=>⟨_,hh.1,s,⟨_,rfl,rfl⟩,⟨hS.1.trans (hh.2.mono hS.1.size),trivial⟩,fun _ _=>rfl⟩
  | 2,_=>exact stepV rfl rfl (execEqN (p:=l - at') (q:=0) rfl (hv 1 (by omega) _ rfl _ rfl) rfl) ⟨s,⟨_,rfl,rfl⟩,hS,fun _ _=>rfl⟩
  | k_+3,h_=>exact absurd h_ (by simp)
 intro s a X h1 h2 h3 h4 hS
 have hS:Below V2.heap.size V2 X:=hS.1
 have t1:=(h3 1 (by decide)).trans t1
 have t3:=(h3 3 (by decide)).trans t3
 have t7:a.eval (.tmp 7)=.bool (decide (l - at'=0)):=h4 2 _ rfl _ rfl
 have A:=(⟨h1,h2.trans A.2⟩:a.tmps.size=16/\a.defers=[])
 clear h1 h2 h3 h4
 rw [decide_eq_false (by omega)] at t7
 refine wp_cond_false t7 (wp_skip ?_)
 refine wp_seq ?_
 refine wp_region_detA 16 [(0,9),(1,10),(2,11),(3,12),(4,13),(5,14),(6,15),(7,2),(9,4)] (fun i_=>match i_ with | 0=>.pointer (some ⟨V.heap.size,0,none⟩) | 1=>.string (strN p l) | 2=>.pointer (some ⟨V.heap.size,1,none⟩) | 3=>.int .i64 ((at':Nat):Int) | 4=>.int .u8 ((p at':Nat):Int) | 5=>.agg (tpC p l at') | 6=>(.agg (tpC p l (at'+1))) | 7=>.int .u8 ((p at':Nat):Int) | 8=>undef | 9=>.int .i64 ((0:Nat):Int) | _=>undef) (fun l_ Y=>Y.heap[V.heap.size]?=some (.cells (tpC p l at') 108)/\Y.heap[V1.heap.size]?=some (.cells (if l_ 8=true then tpC p l (at'+1) else tpC p 0 0) 108)/\Below V.heap.size V Y) (by kernel_rfl) (by kernel_rfl) A.1 (by kernel_rfl) (by decide) (by decide) ⟨on9 r0 hS.drew,on9 r1 hS.drew,(bV.trans (hS.mono bV.size)).drew⟩ ?_ ?_
 ·intro i_ hi_ l_ a X hl_ hf hdep hl2 hcl _ hT
  have up:∀ j,j ≠ 8->updB l_ j 8=l_ 8:=fun j hj=>by unfold updB; simp [Ne.symm hj]
  match i_,hi_ with
  | 0,_=>exact stepV rfl rfl (execFldTp0 rfl ((hf 1 (by decide)).trans t1)) ⟨⟨_,rfl,rfl⟩,hT.1,by rw [up _ (by decide)]; exact hT.2.1,hT.2.2⟩
  | 1,_=>exact stepV rfl rfl (execLd9 rfl (hdep _ rfl 0 rfl _ rfl _ rfl) (tpC_at hT.1).1) ⟨⟨_,rfl,rfl⟩,hT.1,by rw [up _ (by decide)]; exact hT.2.1,hT.2.2⟩
  | 2,_=>exact stepV rfl rfl (execFldTp1 rfl ((hf 1 (by decide)).trans t1)) ⟨⟨_,rfl,rfl⟩,hT.1,by rw [up _ (by decide)]; exact hT.2.1,hT.2.2⟩
  | 3,_=>exact stepV rfl rfl (execLd3 rfl (hdep _ rfl 2 rfl _ rfl _ rfl) (tpC_at hT.1).2) ⟨⟨_,rfl,rfl⟩,hT.1,by rw [up _ (by decide)]; exact hT.2.1,hT.2.2⟩
  | 4,_=>exact stepV rfl rfl (execIdxSt rfl (hdep _ rfl 1 rfl _ rfl _ rfl) (hdep _ rfl 3 rfl _ rfl _ rfl) h (hp _ h)) ⟨⟨_,rfl,rfl⟩,hT.1,by rw [up _ (by decide)]; exact hT.2.1,hT.2.2⟩
  | 5,_=>exact stepV rfl rfl (execLdTp rfl ((hf 1 (by decide)).trans t1) hT.1) ⟨⟨_,rfl,rfl⟩,hT.1,by rw [up _ (by decide)]; exact hT.2.1,hT.2.2⟩
  | 6,_=>exact stepC rfl rfl (execCall2 Try.func88 (by kernel_rfl) (by kernel_rfl) rfl (hdep _ rfl 5 rfl _ rfl _ rfl) rfl) (behind_any p l at' 1 X h hl) fun e w' hh=>⟨_,hh.1,⟨_,rfl,rfl⟩,on9 hT.1 hh.2,by rw [up _ (by decide)]; exact on9 hT.2.1 hh.2,hT.2.2.trans (hh.2.mono hT.2.2.size)⟩
  | 7,_=>exact stepV rfl rfl (execAsgB rfl (hdep _ rfl 4 rfl _ rfl _ rfl)) ⟨⟨_,rfl,rfl⟩,hT.1,by rw [up _ (by decide)]; exact hT.2.1,hT.2.2⟩
  | 8,_=>
   have h3:X.heap[V1.heap.size]?=some (.cells (tpC p 0 0) 108):=by have:=hT.2.1; rw [hl_] at this; exact this
   exact stepS rfl rfl (execStTp rfl ((hf 3 (by decide)).trans t3) (hdep _ rfl 6 rfl _ rfl _ rfl) h3 rfl) ⟨⟨_,rfl,rfl⟩,by rw [setRow_other _ _ _ _ ne0]; exact hT.1,by rw [show updB l_ 8 8=true from by unfold updB; simp]; exact setRow_heap _ _ _ _ _ _ h3,below4 hT.2.2 b1.size _⟩
  | 9,_=>exact stepV rfl rfl (execAsgB rfl rfl) ⟨⟨_,rfl,rfl⟩,hT.1,by rw [up _ (by decide)]; exact hT.2.1,hT.2.2⟩
  | k_+10,h_=>exact absurd h_ (by simp)
 intro l_ a X h1 h2 h3 h4 hall hT
 have t2:a.eval (.tmp 2)=.int .u8 ((p at':Nat):Int):=h4 (7,2) (by decide)
 have t3:=(h3 3 (by decide)).trans t3
 have t4:a.eval (.tmp 4)=.int .i64 ((0:Nat):Int):=h4 (9,4) (by decide)
 have A:=(⟨h1,h2.trans A.2⟩:a.tmps.size=16/\a.defers=[])
 clear h1 h2 h3 h4
 have hT2:=hT.2.1
 rw [hall 8 (by decide)] at hT2
 refine wp_ret ?_
 refine bodyPost_ret (results_tct9 (cs:=tpC p l (at'+1)) rfl _ _ V1.heap.size 108 (0,0) _ t3 hT2 Try.underlying108 rfl (size_tp _ _ _)) A.2 ⟨?_,hT.2.2⟩
 show Ending.returned (.tuple #[a.eval (.tmp 2),.agg (tpC p l (at'+1)),a.eval (.tmp 4)])=_
 rw [t2,t4]
theorem OwnM.set {X:World} {B n g:Nat} {v:Value} {q:Nat->Nat} {cur c:Array Value} {t:TypeId} (h:OwnM X B v n q) (hg:X.heap[g]?=some (.cells cur t)) (ht:t ≠ 5):OwnM (X.setRow g c) B v n q:=by
 obtain ⟨g1,cap,cu,fz,e,hB,h1,hr⟩:=h
 refine ⟨g1,cap,cu,fz,e,hB,?_,hr⟩
 rw [setRow_other _ _ _ _ (fun q=>?_)]
 ·exact h1
 ·subst q
  rw [h1] at hg
  injection hg with hg
  injection hg with _ hg _
  exact ht hg.symm
def TkA (W:World) (B:Nat) (v:Value) (k:Nat) (q:Nat->Nat):Prop:=(v=.slice none 0 0/\k=0)\/OwnM W B v k q
theorem TkA.slice {W:World} {B n:Nat} {v:Value} {p:Nat->Nat} (h:TkA W B v n p):SliceN W v n p:=by
 rcases h with ⟨rfl,rfl⟩ | h
 ·exact ⟨⟨_,_,rfl,Nat.le_refl _,by omega,fun h=>by omega⟩,fun j hj=>by omega⟩
 ·exact h.slice
theorem TkA.on {W W':World} {B n:Nat} {v:Value} {p:Nat->Nat} (h:TkA W B v n p) (hb:Below W.heap.size W W'):TkA W' B v n p:=h.imp id (·.on hb)
theorem TkA.base {W:World} {B C n:Nat} {v:Value} {p:Nat->Nat} (h:TkA W C v n p) (hB:B<=C):TkA W B v n p:=h.imp id (·.base hB)
theorem TkA.set {X:World} {B n g:Nat} {v:Value} {q:Nat->Nat} {cur c:Array Value} {t:TypeId} (h:TkA X B v n q) (hg:X.heap[g]?=some (.cells cur t)) (ht:t ≠ 5):TkA (X.setRow g c) B v n q:=h.imp id (·.set hg ht)
set_option maxRecDepth 20000 in
theorem byte_any (p:Nat->Nat) (l at':Nat) (V:World) (h:at'<=l) (hl:l<=140737488351232) (hp:∀ j,j < l->p j < 256) :
  Calls Try.prog 85 #[.agg (tpC p l at')] V fun e w'=>e=.returned (.tuple #[.int .u8 ((if at' < l then p at' else 0:Nat):Int),.agg (tpC p (if at' < l then l else 0) (if at' < l then at'+1 else 0)),.int .i64 ((if at' < l then 0 else 3:Nat):Int)])/\Below V.heap.size V w':=by
 by_cases hc:at' < l
 ·simp only [if_pos hc]
  exact byte_ok p l at' V hc hl hp
 ·simp only [if_neg hc]
  obtain rfl:at'=l:=by omega
  have k0:∀ W,Calls Try.prog 87 #[.agg #[.string (strN p at'),.int .i64 (at':Int)]] W fun e w'=>e=.returned (.int .i64 0)/\Below W.heap.size W w':=fun W=>by
   have:=left_any p at' at' W (Nat.le_refl _) hl
   rw [Nat.sub_self] at this
   exact this
  clear h hl hp hc
  go_enter Try.func85,Try.ntmps85
  unfold tpC
  go_wp2_with (first
   | (go_at_call 87; refine (k0 _).mono ?_; rintro e w1 ⟨rfl,hb1⟩; have c0:=on9 (two9 V (.cells (tpC p at' at') 108) (.cells (tpC p 0 0) 108)).2 hb1; have bb:Below V.heap.size V w1:=((belNew V _).trans ((belNew _ _).mono (belNew V _).size)).trans (hb1.mono ((belNew V _).trans ((belNew _ _).mono (belNew V _).size)).size); clear hb1)
   | (refine wpList_exS rfl (execStTp (p:=p) (l:=0) (at':=0) rfl rfl rfl c0 rfl) ?_))
  refine bodyPost_ret (results_tct9 (cs:=tpC p 0 0) rfl _ _ (V.heap.size+1) 108 (0,0) _ rfl (setRow_heap _ _ _ _ _ _ c0) Try.underlying108 rfl (size_tp _ _ _)) rfl ⟨rfl,below4 bb (by omega) _⟩
end Go.Proofs.Ytmjpneaccjlpkaa.Tap

namespace Go.Proofs.Ytmjpneaccjlpkaa.Tap
open Go.RowKit Gf8 Aes By8 Cel Cf
/- The program's Take with its errors, bytes.Clone, the law's awake. -/
theorem own_none9 (V:World) (p:Nat->Nat):(V.alloc (.cells #[] 5)).ownsRow V.heap.size 5 1 (.slice (some ⟨V.heap.size,0,none⟩) 0 0) 0 (bytesL 0 p):=
 ⟨rfl,.inr ⟨V.heap.size,0,#[],rfl,Nat.le_refl _,heapNew V _,Nat.le_refl _,by unfold maxLen; omega,rfl,rfl⟩⟩
set_option maxRecDepth 20000 in
theorem clone9 (p:Nat->Nat) (len:Nat) (v:Value) (V:World) (hv:SliceN V v len p) (hl:len<=140737488351232) :
  Calls Try.prog 39 #[v] V fun e w'=>∃ r,e=.returned r/\w'.ownsRow V.heap.size 5 1 r len (bytesL len p)/\Below V.heap.size V w':=by
 obtain ⟨ao,cap,rfl,_,_,hs⟩:=id hv.shape
 cases ao with
 | none=>
  obtain rfl:len=0:=by
   by_cases h:0 < len
   ·obtain ⟨b,off,e,_⟩:=hs h
    cases e
   ·omega
  have en:=fun w=>Go.Lib.run_eql_slice_nil (P:=Try.prog) w 23 5 none 0 cap 0 0 Try.underlying23
  clear hs hv hl
  go_enter Try.func39,Try.ntmps39
  go_wp2
  go_ret
  exact ⟨_,rfl,World.ownsRow_nil _ _ _ _,Below.refl _ _⟩
 | some ad=>
  have HV:Hid (SliceN V (.slice (some ad) len cap) len p):=hv
  have HL:Hid (len<=140737488351232):=hl
  have en:=fun w=>Go.Lib.run_eql_slice_nil (P:=Try.prog) w 23 5 (some ad) len cap 0 0 Try.underlying23
  clear hs hv hl
  go_enter Try.func39,Try.ntmps39
  go_wp2_with (first
   | (refine atAppB (.tmp 5) (.tmp 6) rfl ?_; go_must (refine wpList_appS (B:=V.heap.size) (n:=0) (m:=len) (p:=p) rfl (.tmp 5) (.tmp 6) rfl rfl rfl (own_none9 V p) (sliceN_cg (HV.out.on (belNew V _)) fun j _=>by rw [Nat.zero_add]) (fun l c e=>by cases e) (by have:=HL.out; omega) (belNew V _).size ?_; intro u1 W1 own1 gr1; have b1:Below V.heap.size V W1:=below_grown (belNew V _) (belNew V _).size (own_none9 V p) gr1; rw [Nat.zero_add] at own1; clear gr1)))
  go_ret
  exact ⟨_,rfl,own1,b1⟩
end Go.Proofs.Ytmjpneaccjlpkaa.Tap

namespace Go.Proofs.Ytmjpneaccjlpkaa.Tap
open Go.RowKit Gf8 Aes By8 Cel Cf
/- append to a row that may bear a mark behind its cells. -/
theorem bytesL_len (n:Nat) (p:Nat->Nat):(bytesL n p).length=n:=by simp [bytesL]
theorem bytesL_one (n:Nat) (p:Nat->Nat):∀ u ∈ bytesL n p,u.oneCell'=true:=by
 intro z hz
 unfold bytesL at hz
 obtain ⟨k,_,rfl⟩:=List.mem_map.1 hz
 rfl
theorem OwnM.some {W:World} {B n:Nat} {v:Value} {p:Nat->Nat} (h:OwnM W B v n p):∀ l c,v ≠ .slice none l c:=by
 obtain ⟨g,cap,cur,fz,rfl,_⟩:=h
 intro l c e
 cases e
theorem OwnM.over {W W':World} {B b n:Nat} {v:Value} {p:Nat->Nat} {row:Option Nat} (h:OwnM W B v n p) (hg:W.grownBy W' row) (hr:∀ k,row=Option.some k->k < b) (hb:b<=B):OwnM W' B v n p:=by
 obtain ⟨g,cap,cur,fz,e,hB,h1,hrest⟩:=h
 refine ⟨g,cap,cur,fz,e,hB,?_,hrest⟩
 rw [hg.block g (Array.getElem?_eq_some_iff.1 h1).1 (fun q=>?_)]
 ·exact h1
 ·have:=hr g q.symm
  omega
theorem OwnM.row {W:World} {B n:Nat} {v:Value} {p:Nat->Nat} (h:OwnM W B v n p):∀ k,v.ownBlock=Option.some k->B<=k/\k < W.heap.size:=by
 obtain ⟨g,cap,cur,fz,rfl,hB,h1,_⟩:=h
 intro k hk
 obtain rfl:g=k:=by simpa [Value.ownBlock] using hk
 exact ⟨hB,(Array.getElem?_eq_some_iff.1 h1).1⟩
theorem shp9 {W:World} {v:Value} {n:Nat} {p:Nat->Nat} (h:SliceN W v n p):∃ a c,v=.slice a n c:=by
 obtain ⟨a,c,e,_⟩:=h.shape
 exact ⟨a,c,e⟩
section
variable {o:Oper} {a:Act} {w:World}
theorem execLeN {x y:Operand} {p q:Nat} (ho:o.op=.binOp .leq 3 x y 3) (hx:a.eval x=.int .i64 (p:Int)) (hy:a.eval y=.int .i64 (q:Int)):(execOp a.eval o).run Try.prog w=.ok (.value (.bool (decide (p<=q)))) w:=by
 unfold execOp
 simp only [ho,hx,hy]
 by_cases h:p<=q
 ·simp [go_sem,h]
 ·simp [go_sem,h]
end
end Go.Proofs.Ytmjpneaccjlpkaa.Tap

namespace Go.Proofs.Ytmjpneaccjlpkaa.Drw
/- Draws over Nat. -/
def scan (p:Nat->Nat) (b:Nat):Nat->Nat->Nat
 | 0,at'=>at'
 | k+1,at'=>if p at' / b < 256 / b then at' else scan p b k (at'+1)
theorem scan_in (p:Nat->Nat) (b:Nat):∀ k at',at'<=scan p b k at'/\scan p b k at'<=at'+k
 | 0,at'=>⟨Nat.le_refl _,Nat.le_refl _⟩
 | k+1,at'=>by
  unfold scan
  by_cases h:p at' / b < 256 / b
  ·rw [if_pos h]; omega
  ·rw [if_neg h]
   have:=scan_in p b k (at'+1)
   omega
theorem scan_hit (p:Nat->Nat) (b:Nat):∀ k at',scan p b k at' < at'+k->p (scan p b k at') / b < 256 / b
 | 0,at',h=>by unfold scan at h; omega
 | k+1,at',h=>by
  unfold scan at h ⊢
  by_cases e:p at' / b < 256 / b
  ·rw [if_pos e]; exact e
  ·rw [if_neg e] at h ⊢
   exact scan_hit p b k (at'+1) (by omega)
theorem scan_pass (p:Nat->Nat) (b:Nat):∀ k at' j,at'<=j->j < scan p b k at'->¬ p j / b < 256 / b
 | 0,at',j,h1,h2=>by unfold scan at h2; omega
 | k+1,at',j,h1,h2=>by
  unfold scan at h2
  by_cases e:p at' / b < 256 / b
  ·rw [if_pos e] at h2; omega
  ·rw [if_neg e] at h2
   by_cases q:j=at'
   ·subst q; exact e
   ·exact scan_pass p b k (at'+1) j (by omega) h2
theorem scan_is (p:Nat->Nat) (b:Nat):∀ k at' s,at'<=s->s < at'+k->p s / b < 256 / b->(∀ j,at'<=j->j < s->¬ p j / b < 256 / b)->scan p b k at'=s
 | 0,at',s,h1,h2,_,_=>by omega
 | k+1,at',s,h1,h2,h3,h4=>by
  unfold scan
  by_cases q:s=at'
  ·subst q; rw [if_pos h3]
  ·rw [if_neg (h4 at' (Nat.le_refl _) (by omega))]
   exact scan_is p b k (at'+1) s (by omega) (by omega) h3 (fun j hj=>h4 j (by omega))
def dS (p:Nat->Nat) (l at':Nat) (b:Int):Nat:=scan p b.toNat (l - at') at'
def dE (p:Nat->Nat) (l at':Nat) (b:Int):Nat:=if b < 1\/256 < b then 2 else if b=1 then 0 else if dS p l at' b < l then 0 else 3
def dV (p:Nat->Nat) (l at':Nat) (b:Int):Nat:=if dE p l at' b=0/\b ≠ 1 then p (dS p l at' b) % b.toNat else 0
def dN (p:Nat->Nat) (l at':Nat) (b:Int):Nat:=if dE p l at' b=0 then (if b=1 then at' else dS p l at' b+1) else 0
abbrev bad (b:Int):Prop:=b < 1\/256 < b
theorem dE_ok {p:Nat->Nat} {l at':Nat} {b:Int} (h:dE p l at' b=0):¬ bad b/\(b=1\/dS p l at' b < l):=by
 unfold dE at h
 by_cases h1:b < 1\/256 < b
 ·rw [if_pos h1] at h; omega
 ·rw [if_neg h1] at h
  refine ⟨h1,?_⟩
  by_cases h2:b=1
  ·exact Or.inl h2
  ·rw [if_neg h2] at h
   by_cases h3:dS p l at' b < l
   ·exact Or.inr h3
   ·rw [if_neg h3] at h; omega
theorem dE_val (p:Nat->Nat) (l at':Nat) (b:Int):dE p l at' b=0\/dE p l at' b=2\/dE p l at' b=3:=by
 unfold dE
 by_cases h1:b < 1\/256 < b
 ·rw [if_pos h1]; omega
 ·rw [if_neg h1]
  by_cases h2:b=1
  ·rw [if_pos h2]; omega
  ·rw [if_neg h2]
   by_cases h3:dS p l at' b < l
   ·rw [if_pos h3]; omega
   ·rw [if_neg h3]; omega
theorem dE_good {p:Nat->Nat} {l at':Nat} {b:Int} (h:¬ bad b):dE p l at' b=0\/dE p l at' b=3:=by
 rcases dE_val p l at' b with e | e | e
 ·exact Or.inl e
 ·unfold dE at e
  have h':¬ (b < 1\/256 < b):=h
  rw [if_neg h'] at e
  by_cases h2:b=1
  ·rw [if_pos h2] at e; omega
  ·rw [if_neg h2] at e
   by_cases h3:dS p l at' b < l
   ·rw [if_pos h3] at e; omega
   ·rw [if_neg h3] at e; omega
 ·exact Or.inr e
theorem dN_le {p:Nat->Nat} {l at':Nat} {b:Int} (h:at'<=l):dN p l at' b<=l:=by
 unfold dN
 by_cases e:dE p l at' b=0
 ·rw [if_pos e]
  rcases (dE_ok e).2 with h1 | h1
  ·rw [if_pos h1]; exact h
  ·by_cases h2:b=1
   ·rw [if_pos h2]; exact h
   ·rw [if_neg h2]; omega
 ·rw [if_neg e]; omega
theorem dN_ge {p:Nat->Nat} {l at':Nat} {b:Int} (e:dE p l at' b=0):at'<=dN p l at' b:=by
 unfold dN
 rw [if_pos e]
 by_cases h2:b=1
 ·rw [if_pos h2]; omega
 ·rw [if_neg h2]
  have:=(scan_in p b.toNat (l - at') at').1
  unfold dS
  omega
theorem dV_lt {p:Nat->Nat} {l at':Nat} {b:Int} (e:dE p l at' b=0):(dV p l at' b:Int) < b:=by
 have h:=(dE_ok e).1
 unfold bad at h
 unfold dV
 by_cases h2:b=1
 ·rw [if_neg (fun q=>q.2 h2)]; omega
 ·rw [if_pos ⟨e,h2⟩]
  have:p (dS p l at' b) % b.toNat < b.toNat:=Nat.mod_lt _ (by omega)
  omega
def plA (p:Nat->Nat) (l:Nat) (bs:Nat->Int):Nat->Nat
 | 0=>0
 | i+1=>dN p l (plA p l bs i) (bs i)
def dA (p:Nat->Nat) (l:Nat) (bs:Nat->Int) (i:Nat):Nat:=dV p l (plA p l bs i) (bs i)
theorem plA_le (p:Nat->Nat) (l:Nat) (bs:Nat->Int):∀ i,plA p l bs i<=l
 | 0=>Nat.zero_le _
 | i+1=>dN_le (plA_le p l bs i)
def okA (p:Nat->Nat) (l:Nat) (bs:Nat->Int) (n:Nat):Prop:=∀ i,i < n->dE p l (plA p l bs i) (bs i)=0
def anyB (bs:Nat->Int):Nat->Bool
 | 0=>false
 | i+1=>anyB bs i || decide (bad (bs i))
theorem anyB_no {bs:Nat->Int}:∀ {n},anyB bs n=false->∀ i,i < n->¬ bad (bs i)
 | 0,_,i,h=>by omega
 | n+1,e,i,h=>by
  simp only [anyB,Bool.or_eq_false_iff,decide_eq_false_iff_not] at e
  by_cases q:i=n
  ·subst q; exact e.2
  ·exact anyB_no e.1 i (by omega)
theorem anyB_yes {bs:Nat->Int}:∀ {n i},i < n->bad (bs i)->anyB bs n=true
 | 0,i,h,_=>by omega
 | n+1,i,h,hb=>by
  simp only [anyB,Bool.or_eq_true,decide_eq_true_eq]
  by_cases q:i=n
  ·subst q; exact Or.inr hb
  ·exact Or.inl (anyB_yes (by omega) hb)
def okB (p:Nat->Nat) (l:Nat) (bs:Nat->Int):Nat->Bool
 | 0=>true
 | i+1=>okB p l bs i && decide (dE p l (plA p l bs i) (bs i)=0)
theorem okB_iff {p:Nat->Nat} {l:Nat} {bs:Nat->Int}:∀ {n},okB p l bs n=true ↔ okA p l bs n
 | 0=>⟨fun _ i h=>by omega,fun _=>rfl⟩
 | n+1=>by
  simp only [okB,Bool.and_eq_true,decide_eq_true_eq]
  rw [okB_iff]
  refine ⟨fun h i hi=>?_,fun h=>⟨fun i hi=>h i (by omega),h n (by omega)⟩⟩
  by_cases q:i=n
  ·subst q; exact h.2
  ·exact h.1 i (by omega)
def allE (p:Nat->Nat) (l:Nat) (bs:Nat->Int) (n:Nat):Nat:=if anyB bs n then 2 else if okB p l bs n then 0 else 3
def allN (p:Nat->Nat) (l:Nat) (bs:Nat->Int) (n:Nat):Nat:=if allE p l bs n=0 then n else 0
def allK (p:Nat->Nat) (l:Nat) (bs:Nat->Int) (n:Nat):Nat:=if allE p l bs n=0 then plA p l bs n else 0
def trF (p:Nat->Nat) (l:Nat) (bs ws:Nat->Int):Nat->Nat->Nat
 | 0=>p
 | i+1=>fun j=>if bs i ≠ 1/\j=plA p l bs (i+1) - 1 then p j - dA p l bs i+(ws i).toNat else trF p l bs ws i j
def anyW (bs ws:Nat->Int):Nat->Bool
 | 0=>false
 | i+1=>anyW bs ws i || decide (ws i < 0\/bs i<=ws i)
def trE (p:Nat->Nat) (l:Nat) (bs:Nat->Int) (n:Nat) (ws:Nat->Int) (m:Nat):Nat:=if anyB bs n=true\/m ≠ n\/anyW bs ws m=true then 2 else if okB p l bs n then 0 else 3
end Go.Proofs.Ytmjpneaccjlpkaa.Drw
