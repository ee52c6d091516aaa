import Derived.Test.YtjckkdjldnobmaaGreatDoorX5c
import Derived.Test.YtjckkdjldnobmaaGreatDoorC6
import Derived.Test.YtjckkdjldnobmaaGreatDoorZ2
import Derived.Test.YtjckkdjldnobmaaGreatDoorX7f
import Derived.Deep.RegionWith
namespace Go.Proofs.YtjckkdjldnobmaaGreatDoor.Oni
open Go.RowKit Gf8 Aes By8 Cel
/- Operations that layer 7 needs; mac's contracts in Nat. -/
theorem toB {W:World} {v:Value} {l:Nat} {p:Nat->Nat} (h:SliceN W v l p):SliceB W v l (ci p):=
 ⟨h.shape,fun j hj=>by have:=h.bytes j hj; unfold ci; omega⟩
theorem tab_ci (n:Nat) (p:Nat->Nat):tab8 n (ci p)=bA n p:=rfl
theorem vals_ci (n:Nat) (p:Nat->Nat):vals (firstL (ci p) n)=bytesL n p:=by
 unfold vals firstL bytesL ci
 rw [List.map_map]
 rfl
theorem size80 (f:Nat->Nat):(Tryz.prog.info? 152).map (·.size)=some (bA 80 f).size:=by rw [bA_size]; kernel_rfl
theorem size32 (f:Nat->Nat):(Tryz.prog.info? 116).map (·.size)=some (bA 32 f).size:=by rw [bA_size]; kernel_rfl
theorem zeroK:∀ w,(zeroValue 152).run Tryz.prog w=.ok (.agg (bA 80 fun _=>0)) w:=
 (zero_of_info (n:=80) (by kernel_rfl)).1
theorem zero32:∀ w,(zeroValue 116).run Tryz.prog w=.ok (.agg (bA 32 fun _=>0)) w:=
 (zero_of_info (n:=32) (by kernel_rfl)).1
theorem sl16 (b:Nat) (W:World):(Instr.sliceAt 34 (.pointer (some ⟨b,0,none⟩)) none none none).run Tryz.prog W=.ok (.slice (some ⟨b,0,none⟩) 16 16) W:=by
 simp [Instr.sliceAt,Instr.sureAddr,run_underlying Tryz.underlying34,Instr.sliceBounds,go_sem]
theorem sl32 (b:Nat) (W:World):(Instr.sliceAt 116 (.pointer (some ⟨b,0,none⟩)) none none none).run Tryz.prog W=.ok (.slice (some ⟨b,0,none⟩) 32 32) W:=by
 simp [Instr.sliceAt,Instr.sureAddr,run_underlying Tryz.underlying116,Instr.sliceBounds,go_sem]
theorem sl32h (b:Nat) (W:World):(Instr.sliceAt 116 (.pointer (some ⟨b,0,none⟩)) none (some (.int .i64 16)) none).run Tryz.prog W=.ok (.slice (some ⟨b,0,none⟩) 16 32) W:=by
 simp [Instr.sliceAt,Instr.sureAddr,run_underlying Tryz.underlying116,Instr.sliceBounds,run_sliceBound,go_sem]
theorem slK (b o:Nat) (W:World):(Instr.sliceAt 34 (.pointer (some ⟨b,o,none⟩)) none none none).run Tryz.prog W=.ok (.slice (some ⟨b,o,none⟩) 16 16) W:=by
 simp [Instr.sliceAt,Instr.sureAddr,run_underlying Tryz.underlying34,Instr.sliceBounds,go_sem]
theorem slK2 (b o:Nat) (W:World):(Instr.sliceAt 116 (.pointer (some ⟨b,o,none⟩)) none none none).run Tryz.prog W=.ok (.slice (some ⟨b,o,none⟩) 32 32) W:=by
 simp [Instr.sliceAt,Instr.sureAddr,run_underlying Tryz.underlying116,Instr.sliceBounds,go_sem]
section
variable {o:Oper} {a:Act} {w:World}
theorem execStAll {P:Program} {ty:TypeId} {x y:Operand} {g:Nat} {cells cur:Array Value} {t:TypeId} (ho:o.op=.store ty x y) (hx:a.eval x=.pointer (some ⟨g,0,none⟩)) (hy:a.eval y=.agg cells) (hg:w.heap[g]?=some (.cells cur t)) (hs:cur.size=cells.size) (hi:(P.info? ty).map (·.size)=some cells.size) (h1:cells.all (·.oneCell')=true) :
  (execOp a.eval o).run P w=.ok .skip (w.setRow g cells):=by
 have h:=execStMid (P:=P) ho hx hy hg (by omega) hi h1
 have e:(cur.toList.take 0 ++ cells.toList ++ cur.toList.drop (0+cells.size)).toArray=cells:=by
  rw [List.take_zero,List.nil_append,Nat.zero_add,List.drop_of_length_le (by rw [Array.length_toList,hs]; exact Nat.le_refl _),List.append_nil]
 rw [e] at h
 exact h
theorem execLdAll {P:Program} {ty:TypeId} {x:Operand} {g:Nat} {cells:Array Value} {t:TypeId} {fr:Nat × Nat} {d:TypeDesc} (ho:o.op=.load ty x) (hx:a.eval x=.pointer (some ⟨g,0,none⟩)) (hg:w.heap[g]?=some (.cells cells t fr)) (hu:P.underlying ty=some d) (hd:d.isRow=true) (hi:(P.info? ty).map (·.size)=some cells.size) :
  (execOp a.eval o).run P w=.ok (.value (.agg cells)) w:=by
 have h:=Aes.execLoadMid (P:=P) (w:=w) (cs:=cells.toList) ho hx (fun j v hj=>by rw [cell_of_row _ _ _ _ _ _ hg,Nat.zero_add,← Array.getElem?_toList]; exact hj) hu hd (by rw [hi,Array.length_toList])
 exact h
theorem execLdPart {P:Program} {ty:TypeId} {x:Operand} {g f k N:Nat} {q:Nat->Nat} {t:TypeId} {fr:Nat × Nat} {d:TypeDesc} (ho:o.op=.load ty x) (hx:a.eval x=.pointer (some ⟨g,f,none⟩)) (hg:w.heap[g]?=some (.cells (bA N q) t fr)) (hN:f+k<=N) (hu:P.underlying ty=some d) (hd:d.isRow=true) (hi:(P.info? ty).map (·.size)=some k) :
  (execOp a.eval o).run P w=.ok (.value (.agg (bA k fun j=>q (f+j)))) w:=by
 refine Aes.execLoadMid (P:=P) (cs:=bytesL k fun j=>q (f+j)) ho hx ?_ hu hd (by rw [bytesL_len]; exact hi)
 intro j v hj
 have hk:j < k:=by have:=(List.getElem?_eq_some_iff.1 hj).1; rwa [bytesL_len] at this
 rw [bytesL_at k _ hk] at hj
 rw [← hj,cell_of_row _ _ _ _ _ _ hg]
 exact bA_at N q (by omega)
theorem execLdList {P:Program} {ty:TypeId} {x:Operand} {g f k:Nat} {q:Nat->Nat} {d:TypeDesc} (ho:o.op=.load ty x) (hx:a.eval x=.pointer (some ⟨g,f,none⟩)) (hg:∀ j,j < k->w.cell? ⟨g,f+j,none⟩=some (.int .u8 (q j))) (hu:P.underlying ty=some d) (hd:d.isRow=true) (hi:(P.info? ty).map (·.size)=some k) :
  (execOp a.eval o).run P w=.ok (.value (.agg (bA k q))) w:=by
 refine Aes.execLoadMid (P:=P) (cs:=bytesL k q) ho hx ?_ hu hd (by rw [bytesL_len]; exact hi)
 intro j v hj
 have hk:j < k:=by have:=(List.getElem?_eq_some_iff.1 hj).1; rwa [bytesL_len] at this
 rw [bytesL_at k _ hk] at hj
 rw [← hj]
 exact hg j hk
theorem execB16 (ho:o.op=.build 34 #[]):(execOp a.eval o).run Tryz.prog w=.ok (.value (.agg (bA 16 fun _=>0))) w:=by
 have h:=zero16
 unfold execOp
 simp only [ho]
 simp [go_sem,h]
theorem execBK (ho:o.op=.build 152 #[]):(execOp a.eval o).run Tryz.prog w=.ok (.value (.agg (bA 80 fun _=>0))) w:=by
 have h:=zeroK
 unfold execOp
 simp only [ho]
 simp [go_sem,h]
theorem execArr16 {x:Operand} {ad:Option Addr} {n c:Nat} (ho:o.op=.sliceToArrayPointer 34 x) (hx:a.eval x=.slice ad n c) (hn:16<=n):(execOp a.eval o).run Tryz.prog w=.ok (.value (.pointer ad)) w:=by
 have e:¬ n < 16:=by omega
 unfold execOp
 simp only [ho,hx]
 simp [Instr.arrayAt,run_underlying Tryz.underlying34,e]
theorem execU8 {x:Operand} {n:Nat} (ho:o.op=.convert 3 5 x) (hx:a.eval x=.int .i64 (n:Int)):(execOp a.eval o).run Tryz.prog w=.ok (.value (.int .u8 ((n % 256:Nat):Int))) w:=by
 unfold execOp
 simp only [ho,hx]
 simp [go_sem,IntKind.wrap,show IntKind.u8.signed=false from rfl]
theorem execU8s {x:Operand} {n:Nat} (ho:o.op=.convert 3 5 x) (hx:a.eval x=.int .i64 (n:Int)) (hn:n < 256):(execOp a.eval o).run Tryz.prog w=.ok (.value (.int .u8 (n:Int))) w:=by
 have h:=execU8 (w:=w) ho hx
 rw [Nat.mod_eq_of_lt hn] at h
 exact h
theorem execAppS {W:World} {B n m:Nat} {v u:Value} {p:Nat->Nat} {s x:Operand}
  (ho:o.op=.call { callee:=.builtin .append,args:=#[s,x],argTypes:=#[24,24] })
  (hs:a.eval s=v) (hx:a.eval x=u) (hown:W.ownsRow B 5 1 v n (bytesL n p)) (hu:SliceN W u m (fun j=>p (n+j))) (h0:0 < m)
  (hbig:n+m<=200000000000000) (hB:B<=W.heap.size) :
  ∃ v' W',(execOp a.eval o).run Tryz.prog W=.ok (.value v') W'/\W'.ownsRow B 5 1 v' (n+m) (bytesL (n+m) p)/\((v'.ownBlock=v.ownBlock/\W.grownBy W' v.ownBlock)\/(v'.ownBlock=some W.heap.size/\W.grownBy W' none)):=by
 obtain ⟨i,h1,h2,h3,h4⟩:=info5
 obtain ⟨⟨ao,cap,rfl,_,_,hc⟩,_⟩:=hu
 obtain ⟨b,off,rfl,_,e3⟩:=hc h0
 obtain ⟨v',w',hr,q1,q2⟩:=run_append_ownP (P:=Tryz.prog) W B 24 o.type 5 i (.int .u8 0) Tryz.underlying24 h1 h2 h3 h4 rfl v n (bytesL n p) hown ⟨b,off,none⟩ m cap (bytesL m fun j=>p (n+j)) (bytesL_len _ _) (by
   intro j z hz
   have hj:j < m:=by have:=(List.getElem?_eq_some_iff.1 hz).1; rw [bytesL_len] at this; exact this
   rw [Go.WideShapes.add_plain,e3 j hj]
   rw [bytesL_at m _ hj] at hz
   exact hz) (by
   intro z hz
   unfold bytesL at hz
   obtain ⟨k,_,rfl⟩:=List.mem_map.1 hz
   rfl) hbig hB
 rw [bytesL_app] at q1
 refine ⟨v',w',?_,q1,q2⟩
 unfold execOp
 simp only [ho,resolve,invoke,builtin,Sem.run_bind,Sem.run_pure,Result.andThen_ok,List.map_toArray,List.map_cons,List.map_nil,hs,hx,hr]
end
theorem results_cell_tmp1 {P:Program} {fn:Func} {p u:Tmp} {ty:TypeId} (h:fn.results=#[.cell p ty,.tmp u]) (tmps:Array Value) (w:World) (g:Nat) (t:TypeId) (cs:Array Value) (fr:Nat × Nat) (d:TypeDesc)
  (hp:tmps.getD p undef=.pointer (some ⟨g,0,none⟩)) (hg:w.heap[g]?=some (.cells cs t fr))
  (hu:P.underlying ty=some d) (hd:(match d with | .struct _ | .array _ _=>true | _=>false)=true) (hi:(P.info? ty).map (·.size)=some cs.size) :
  (results fn tmps).run P w=.ok (.tuple #[.agg cs,tmps.getD u undef]) w:=by
 have hp':tmps[p]?.getD undef=.pointer (some ⟨g,0,none⟩):=by simpa using hp
 simp [results,h,hp',asAddr,run_loadVar_row w g t ty cs fr d hg hu hd hi]
theorem results_cell {P:Program} {fn:Func} {p:Tmp} {ty:TypeId} (h:fn.results=#[.cell p ty]) (tmps:Array Value) (w:World) (g:Nat) (t:TypeId) (cs:Array Value) (fr:Nat × Nat) (d:TypeDesc)
  (hp:tmps.getD p undef=.pointer (some ⟨g,0,none⟩)) (hg:w.heap[g]?=some (.cells cs t fr))
  (hu:P.underlying ty=some d) (hd:(match d with | .struct _ | .array _ _=>true | _=>false)=true) (hi:(P.info? ty).map (·.size)=some cs.size) :
  (results fn tmps).run P w=.ok (.agg cs) w:=by
 have hp':tmps[p]?.getD undef=.pointer (some ⟨g,0,none⟩):=by simpa using hp
 simp [results,h,hp',asAddr,run_loadVar_row w g t ty cs fr d hg hu hd hi]
theorem row_slice {W:World} {b N:Nat} {f:Nat->Nat} {t:TypeId} {fr:Nat × Nat} (hg:W.heap[b]?=some (.cells (bA N f) t fr)) (hf:∀ j,j < N->f j < 256) (hN:N<=1000):SliceN W (.slice (some ⟨b,0,none⟩) N N) N f:=by
 refine ⟨⟨_,_,rfl,Nat.le_refl _,by omega,fun _=>⟨b,0,rfl,(Array.getElem?_eq_some_iff.1 hg).1,fun j hj=>?_⟩⟩,hf⟩
 rw [cell_of_row _ _ _ _ _ _ hg,Nat.zero_add]
 exact bA_at N f hj
theorem lit_slice {W:World} {b N:Nat} {C:Array Value} {f:Nat->Nat} {t:TypeId} {fr:Nat × Nat} (hg:W.heap[b]?=some (.cells C t fr)) (hC:∀ j,j < N->C[j]?=some (.int .u8 (f j))) (hf:∀ j,j < N->f j < 256) (hN:N<=1000):SliceN W (.slice (some ⟨b,0,none⟩) N N) N f:=by
 refine ⟨⟨_,_,rfl,Nat.le_refl _,by omega,fun _=>⟨b,0,rfl,(Array.getElem?_eq_some_iff.1 hg).1,fun j hj=>?_⟩⟩,hf⟩
 rw [cell_of_row _ _ _ _ _ _ hg,Nat.zero_add]
 exact hC j hj
theorem ptag_any (vk vm:Value) (lm:Nat) (key m:Nat->Nat) (w:World) (hG:Glob w) (hm:lm<=140737488351232) (h1:SliceN w vk 32 key) (h2:SliceN w vm lm m) :
  Calls Tryz.prog 98 #[vk,vm] w fun e w'=>e=.returned (.agg (bA 32 (hfF key m lm)))/\Below w.heap.size w w':=by
 refine (mtag_any vk vm 32 lm (ci key) (ci m) w hG (by omega) (by omega) (toB h1) (toB h2)).mono ?_
 rintro e w' ⟨rfl,hb⟩
 exact ⟨by rw [← hfF_ci,tab_ci],hb⟩
theorem pderive_any (vs vt vi:Value) (key nonce:Nat->Nat) (w:World) (hG:Glob w) (h0:SliceN w vs 32 key) (h1:SliceN w vt 16 nonce) (h2:SliceN w vi 5 chF) :
  Calls Tryz.prog 50 #[vs,vt,vi,.int .i64 80] w fun e w'=>∃ v',e=.returned (.tuple #[v',.int .i64 0])/\w'.ownsRow w.heap.size 5 1 v' 80 (bytesL 80 (dk key nonce))/\Below w.heap.size w w':=by
 refine (mderive_any vs vt vi 32 16 5 (ci key) (ci nonce) (ci chF) 80 w hG (by omega) (by omega) (by omega) (toB h0) (toB h1) (toB h2)).mono ?_
 rintro e w' ⟨v',rfl,own,hb⟩
 rw [show expN 80=80 from rfl,← dk_ci,vals_ci] at own
 exact ⟨v',rfl,own,hb⟩
theorem chF_lt (j:Nat) (h:j < 5):chF j < 256:=by
 have:∀ i:Fin 5,chF i.val < 256:=by decide
 exact this ⟨j,h⟩
end Go.Proofs.YtjckkdjldnobmaaGreatDoor.Oni

namespace Go.Proofs.YtjckkdjldnobmaaGreatDoor.Oni
open Go.RowKit Gf8 Aes By8 Cel
/- Layer 7's small functions. -/
set_option maxRecDepth 20000 in
theorem psize_any (left:Int) (V:World):Calls Tryz.prog 81 #[.int .i64 left] V fun e w'=>e=.returned (.int .i64 (sz left:Nat))/\w'=V:=by
 by_cases h1:left < 1
 ·rw [show sz left=0 from if_neg (by omega)]
  go_enter Tryz.func81,Tryz.ntmps81
  go_wp2
  go_ret
  exact ⟨rfl,rfl⟩
 ·by_cases h2:left > 8
  ·rw [show sz left=0 from if_neg (by omega)]
   go_enter Tryz.func81,Tryz.ntmps81
   go_wp2
   go_ret
   exact ⟨rfl,rfl⟩
  ·have e:((sz left:Nat):Int)=48+34 * left:=by unfold sz; rw [if_pos (by omega)]; omega
   rw [e]
   go_enter Tryz.func81,Tryz.ntmps81
   go_wp2
   go_ret
   exact ⟨rfl,rfl⟩
set_option maxRecDepth 20000 in
theorem proom_any (left:Int) (V:World):Calls Tryz.prog 82 #[.int .i64 left] V fun e w'=>e=.returned (.int .i64 ((sz left:Int) - 34))/\w'=V:=by
 have l1:((sz left:Nat):Int)<=320:=by have:=sz_le left; omega
 go_enter Tryz.func82,Tryz.ntmps82
 go_wp2_with (go_at_call 81; refine (psize_any left V).mono ?_; rintro e w1 ⟨rfl,hw1⟩; subst hw1)
 go_ret
 exact ⟨rfl,rfl⟩
theorem be0:bA 16 (fun _=>0)=bA 16 (be 0):=bA_congr fun j _=>by unfold be; rw [Nat.zero_div,Nat.zero_mod]
set_option maxRecDepth 20000 in
theorem masked_any (d p:Nat->Nat) (len:Nat) (v:Value) (V:World) (hd:∀ j,d j < 256) (hv:SliceN V v len p) (hl:len<=140737488351232) :
  Calls Tryz.prog 83 #[.agg (bA 80 d),v] V fun e w'=>∃ r,e=.returned r/\w'.ownsRow V.heap.size 5 1 r len (bytesL len (bxF d p))/\Below V.heap.size V w':=by
 have r1:=heapNew V (.cells (bA 80 d) 152)
 have b1:=belNew V (.cells (bA 80 d) 152)
 have C:Hid (Calls Tryz.prog 101 #[.agg (bA 16 fun j=>d (0+j)),.agg (bA 16 fun _=>0),v] (V.alloc (.cells (bA 80 d) 152)) fun e w'=>∃ r,e=.returned r/\w'.ownsRow V.heap.size 5 1 r len (bytesL len (bxF d p))/\Below V.heap.size V w'):=by
  have e1:(fun j=>d (0+j))=d:=by funext j; rw [Nat.zero_add]
  show Calls _ _ _ _ _
  rw [be0,e1]
  refine (pMask_any d p 0 len v _ (fun j _=>hd j) (hv.on b1) hl).mono ?_
  rintro e w' ⟨r,rfl,own,hb⟩
  exact ⟨r,rfl,own_base own b1.size,b1.trans (hb.mono b1.size)⟩
 have R1:Hid (_):=r1
 clear r1 b1 hd hv hl
 go_enter Tryz.func83,Tryz.ntmps83
 go_wp2_with (first
  | (refine atLoad 34 (.tmp 5) rfl ?_; go_must (refine wpList_ex rfl (execLdPart (k:=16) rfl rfl R1.out (by omega) Tryz.underlying34 rfl (by kernel_rfl)) ?_))
  | (refine wpList_ex rfl (execB16 rfl) ?_)
  | (go_at_call 101; refine C.out.mono ?_; rintro e w1 ⟨r,rfl,own,hb1⟩))
 go_ret
 exact ⟨r,rfl,own,hb1⟩
set_option maxRecDepth 20000 in
theorem shortTag_any (key m:Nat->Nat) (lm:Nat) (v:Value) (V:World) (hG:Glob V) (hk:∀ j,j < 32->key j < 256) (hv:SliceN V v lm m) (hl:lm<=140737488351232) :
  Calls Tryz.prog 102 #[.agg (bA 32 key),v] V fun e w'=>e=.returned (.agg (bA 16 (hfF key m lm)))/\Below V.heap.size V w':=by
 obtain ⟨V2,hV2⟩:∃ V2,(V.alloc (.cells (bA 32 key) 116)).alloc (.cells (bA 16 fun _=>0) 34)=V2:=⟨_,rfl⟩
 have hh:=heap2c V (.cells (bA 32 key) 116) (.cells (bA 16 fun _=>0) 34)
 have bl:=below2c V (.cells (bA 32 key) 116) (.cells (bA 16 fun _=>0) 34)
 rw [hV2] at hh bl
 have s2:V2.heap.size=V.heap.size+2:=by rw [← hV2]; simp
 have C:=ptag_any (.slice (some ⟨V.heap.size,0,none⟩) 32 32) v lm key m V2 (hG.below bl hG.sz) hl (row_slice hh.1 hk (by omega)) (hv.on bl)
 have HH:Hid (_/\_):=hh
 have BL:Hid (Below V.heap.size V V2/\V2.heap.size=V.heap.size+2):=⟨bl,s2⟩
 have z16:=zero16
 have z32:=zero32
 have s32:=sl32
 have s32h:=sl32h
 clear hG hk hv hl hh bl s2
 go_enter Tryz.func102,Tryz.ntmps102
 go_wp2_with (first
  | (go_at_call 98; refine C.mono ?_; rintro e w1 ⟨rfl,hb1⟩; have R0:Hid (w1.heap[V.heap.size+1]?=some (.cells (bA 16 fun _=>0) 34)):=(by rw [hb1.block _ (by have:=BL.out.2; omega)]; exact HH.out.2); have B1:Hid (Below V.heap.size V w1/\V.heap.size+2<=w1.heap.size):=⟨BL.out.1.trans (hb1.mono BL.out.1.size),by have:=hb1.size; have:=BL.out.2; omega⟩; clear hb1)
  | (refine atStore 116 (.tmp 5) (.tmp 8) rfl ?_; go_must (refine wpList_exS rfl (execStAll (cells:=bA 32 (hfF key m lm)) rfl rfl rfl (heapNew w1 _) (by rw [bA_size,bA_size]) (size32 _) (bA_one _ _)) ?_; obtain ⟨W3,hW3⟩:∃ W3,(w1.alloc (.cells (bA 32 fun _=>0) 116)).setRow w1.heap.size (bA 32 (hfF key m lm))=W3:=⟨_,rfl⟩; have R3:Hid (W3.heap[w1.heap.size]?=some (.cells (bA 32 (hfF key m lm)) 116)):=(by rw [← hW3]; exact setRow_heap _ _ _ _ _ _ (heapNew w1 _)); have b3:Below w1.heap.size w1 W3:=(by rw [← hW3]; exact below4 (belNew w1 _) (Nat.le_refl _) _); have R4:Hid (W3.heap[V.heap.size+1]?=some (.cells (bA 16 fun _=>0) 34)):=(by rw [b3.block _ (by have:=B1.out.2; omega)]; exact R0.out); have B3:Hid (Below V.heap.size V W3):=B1.out.1.trans (b3.mono B1.out.1.size); rw [hW3]; clear b3 hW3))
  | (refine wpList_ex rfl (execArr16 rfl rfl (by omega)) ?_)
  | (refine atLoad 34 (.tmp 10) rfl ?_; go_must (refine wpList_ex rfl (execLdPart (k:=16) rfl rfl R3.out (by omega) Tryz.underlying34 rfl (by kernel_rfl)) ?_))
  | (refine atStore 34 (.tmp 4) (.tmp 11) rfl ?_; go_must (refine wpList_exS rfl (execStAll (cells:=bA 16 fun j=>hfF key m lm (0+j)) rfl rfl rfl R4.out (by rw [bA_size,bA_size]) (size16 _) (bA_one _ _)) ?_)))
 refine bodyPost_ret (results_cell Tryz.results102 _ _ (V.heap.size+1) 34 _ (0,0) _ rfl (setRow_heap _ _ _ _ _ _ R4.out) Tryz.underlying34 rfl (size16 _)) rfl ⟨?_,below4 B3.out (by omega) _⟩
 rw [show (fun j=>hfF key m lm (0+j))=hfF key m lm from by funext j; rw [Nat.zero_add]]
end Go.Proofs.YtjckkdjldnobmaaGreatDoor.Oni

namespace Go.Proofs.YtjckkdjldnobmaaGreatDoor.Oni
open Go.RowKit Gf8 Aes By8 Cel
/- An onion's tag, its replay tag. -/
section
variable {o:Oper} {a:Act} {w:World}
theorem execFldK1 {x:Operand} {g:Nat} (ho:o.op=.fieldAddr 152 x 1) (hx:a.eval x=.pointer (some ⟨g,0,none⟩)):(execOp a.eval o).run Tryz.prog w=.ok (.value (.pointer (some ⟨g,16,none⟩))) w:=by
 unfold execOp
 simp only [ho,hx]
 simp [go_sem]
end
theorem grown_row {W W':World} {v v':Value} (h:(v'.ownBlock=v.ownBlock/\W.grownBy W' v.ownBlock)\/(v'.ownBlock=some W.heap.size/\W.grownBy W' none)):W.grownBy W' v.ownBlock:=by
 rcases h with ⟨_,h⟩ | ⟨_,h⟩
 ·exact h
 ·exact ⟨h.os,h.tape,h.output,h.size,fun k hk _=>h.block k hk (by simp)⟩
theorem grown_keeps {W W':World} {B n b:Nat} {v v':Value} {xs:List Value} {c:Array Value} {t:TypeId} (own:W.ownsRow B 5 1 v n xs) (g:(v'.ownBlock=v.ownBlock/\W.grownBy W' v.ownBlock)\/(v'.ownBlock=some W.heap.size/\W.grownBy W' none)) (hb:W.heap[b]?=some (.cells c t)) (ht:t ≠ 5):W'.heap[b]?=some (.cells c t):=by
 rw [(grown_row g).block b (Array.getElem?_eq_some_iff.1 hb).1 (own_ne own hb ht)]
 exact hb
theorem stepApp {ops:Array Oper} {Q:Exit->Act->World->Prop} {j:Nat} {o:Oper} {a:Act} {K:Act->World->Prop} {W:World} {B n m:Nat} {v u:Value} {p:Nat->Nat} {s x:Operand} (hj:ops[j]?=some o) (hw:Region.wanted o (yielded ops a.tmps)=true)
  (ho:o.op=.call { callee:=.builtin .append,args:=#[s,x],argTypes:=#[24,24] })
  (hs:a.eval s=v) (hx:a.eval x=u) (hown:W.ownsRow B 5 1 v n (bytesL n p)) (hu:SliceN W u m (fun j=>p (n+j))) (h0:0 < m)
  (hbig:n+m<=200000000000000) (hB:B<=W.heap.size)
  (h:∀ v' W',W'.ownsRow B 5 1 v' (n+m) (bytesL (n+m) p)->((v'.ownBlock=v.ownBlock/\W.grownBy W' v.ownBlock)\/(v'.ownBlock=some W.heap.size/\W.grownBy W' none))->K (a.put o.dst v') W'):wpOp Tryz.prog ops Q j K a W:=by
 obtain ⟨v',W',hr,own,gr⟩:=execAppS ho hs hx hown hu h0 hbig hB
 exact stepV hj hw hr (h v' W' own gr)
def tgT (B:Nat) (d p:Nat->Nat) (v u1:Value) (bl:Nat) (tg:Nat->Nat) (V:World) (l:Nat->Bool) (x:Nat->Value) (W:World):Prop:=
 (l 0=true->x 0=.pointer (some ⟨B,16,none⟩))/\(l 1=true->x 1=.agg (bA 32 fun j=>d (16+j)))/\(l 2=true->x 2=u1)/\(l 3=true->x 3=v) ∧
 (l 4=false->W.ownsRow (B+3) 5 1 u1 17 (bytesL 17 p))/\(l 4=true->W.ownsRow (B+3) 5 1 (x 4) (17+bl) (bytesL (17+bl) p))/\(l 5=true->x 5=.agg (bA 16 tg)) ∧
 (l 6=false->W.heap[B+2]?=some (.cells (bA 16 fun _=>0) 34))/\(l 6=true->W.heap[B+2]?=some (.cells (bA 16 tg) 34))/\W.heap[B]?=some (.cells (bA 80 d) 152)/\B+3<=W.heap.size/\Below B V W
theorem tmF_lt {left:Nat} {nonce box:Nat->Nat} {bl:Nat} (hl:left < 256) (hn:By nonce) (hb:∀ j,j < bl->box j < 256):∀ j,j < 17+bl->tmF left nonce box j < 256:=by
 intro j hj
 unfold tmF
 split
 ·exact hl
 ·split
  ·exact hn _ (by omega)
  ·exact hb _ (by omega)
theorem own_oneB {W:World} {B z:Nat} {p:Nat->Nat} (hB:B<=W.heap.size) (hp:p 0=z):(W.alloc (.cells #[.int .u8 (z:Int)] 5)).ownsRow B 5 1 (.slice (some ⟨W.heap.size,0,none⟩) 1 1) 1 (bytesL 1 p):=by
 have h:=own_full (B:=B) (n:=1) (f:=fun _=>z) (heapNew W _) hB (by omega)
 have e:bytesL 1 (fun _=>z)=bytesL 1 p:=by
  unfold bytesL
  simp [hp]
 rw [e] at h
 exact h
set_option maxRecDepth 20000 in
set_option maxHeartbeats 1000000 in
theorem tagOf_any (d nonce box:Nat->Nat) (left bl:Nat) (v:Value) (V:World) (hG:Glob V) (hd:∀ j,d j < 256) (hn:By nonce) (hl:left < 256) (hb0:0 < bl) (hb1:bl<=1000) (hv:SliceN V v bl box) :
  Calls Tryz.prog 85 #[.agg (bA 80 d),.int .i64 (left:Int),.agg (bA 16 nonce),v] V fun e w'=>e=.returned (.agg (bA 16 (tgF d left nonce box bl)))/\Below V.heap.size V w':=by
 obtain ⟨V3,hV3⟩:∃ V3,((V.alloc (.cells (bA 80 d) 152)).alloc (.cells (bA 16 nonce) 34)).alloc (.cells (bA 16 fun _=>0) 34)=V3:=⟨_,rfl⟩
 have hh:=heap3z V (.cells (bA 80 d) 152) (.cells (bA 16 nonce) 34) (.cells (bA 16 fun _=>0) 34)
 have bl3:=below3z V (.cells (bA 80 d) 152) (.cells (bA 16 nonce) 34) (.cells (bA 16 fun _=>0) 34)
 rw [hV3] at hh bl3
 have s3:V3.heap.size=V.heap.size+3:=by rw [← hV3]; simp
 obtain ⟨p,hp⟩:∃ p,tmF left nonce box=p:=⟨_,rfl⟩
 have p0:p 0=left:=by rw [← hp]; unfold tmF; rw [if_pos rfl]
 have pl:∀ j,j < 17+bl->p j < 256:=by rw [← hp]; exact tmF_lt hl hn hv.bytes
 have pn:∀ j,j < 16->p (1+j)=nonce j:=fun j hj=>by rw [← hp]; unfold tmF; rw [if_neg (by omega),if_pos (by omega)]; congr 1; omega
 have pb:∀ j,p (17+j)=box j:=fun j=>by rw [← hp]; unfold tmF; rw [if_neg (by omega),if_neg (by omega)]; congr 1; omega
 obtain ⟨tg,htg⟩:∃ tg,tgF d left nonce box bl=tg:=⟨_,rfl⟩
 have HT:Hid (hfF (mcK d) p (17+bl)=tg):=by rw [← hp,← htg]; rfl
 have HP:Hid ((∀ j,j < 17+bl->p j < 256)/\(∀ j,j < 16->p (1+j)=nonce j)/\(∀ j,p (17+j)=box j)/\0 < bl/\bl<=1000):=⟨pl,pn,pb,hb0,hb1⟩
 have HV:Hid (Glob V/\(∀ j,d j < 256)/\By nonce/\SliceN V v bl box):=⟨hG,hd,hn,hv⟩
 have HH:Hid (V3.heap[V.heap.size]?=some (.cells (bA 80 d) 152)/\V3.heap[V.heap.size+1]?=some (.cells (bA 16 nonce) 34)/\V3.heap[V.heap.size+2]?=some (.cells (bA 16 fun _=>0) 34)/\V3.heap.size=V.heap.size+3/\Below V.heap.size V V3):=⟨hh.1,hh.2.1,hh.2.2,s3,bl3⟩
 have z16:=zero16
 have s16:=sl16
 have o1:=own_oneB (W:=V3) (B:=V.heap.size+3) (z:=left) (p:=p) (by omega) p0
 have O1:Hid ((V3.alloc (.cells #[.int .u8 (left:Int)] 5)).ownsRow (V.heap.size+3) 5 1 (.slice (some ⟨V3.heap.size,0,none⟩) 1 1) 1 (bytesL 1 p)):=o1
 have HL:Hid (left < 256):=hl
 rw [htg]
 have l1:(left:Int) < 256:=by omega
 clear o1 hG hd hn hl hb0 hb1 hv hh bl3 s3 p0 pl pn pb hp htg
 go_enter Tryz.func85,Tryz.ntmps85
 go_wp2_with (first
  | (refine wpList_ex rfl (execU8s (n:=left) rfl rfl HL.out) ?_)
  | (refine wpList_ex rfl (execOne rfl rfl) ?_)
  | (refine atAppB (.tmp 12) (.tmp 13) rfl ?_; go_must (refine By8.wpList_appS (B:=V.heap.size+3) (n:=1) (m:=16) (p:=p) rfl (.tmp 12) (.tmp 13) rfl rfl rfl O1.out (sliceN_cg (row_slice (by rw [(belNew V3 _).block _ (by have:=HH.out.2.2.2.1; omega)]; exact HH.out.2.1) (fun j hj=>HV.out.2.2.1 j hj) (by omega)) fun j hj=>(HP.out.2.1 j hj).symm) (fun l c e=>by cases e) (by omega) (by have hz:=(belNew V3 (.cells #[.int .u8 (left:Int)] 5)).size; have:=HH.out.2.2.2.1; omega) ?_; intro u1 W4 own4 gr4; have own':=O1.out; have R4:Hid (tgT V.heap.size d p v u1 bl tg V (fun _=>false) (fun _=>undef) W4):=⟨fun q=>(by cases q),fun q=>(by cases q),fun q=>(by cases q),fun q=>(by cases q),fun _=>own4,fun q=>(by cases q),fun q=>(by cases q),fun _=>grown_keeps own' gr4 (by rw [(belNew V3 _).block _ (by have:=HH.out.2.2.2.1; omega)]; exact HH.out.2.2.1) (by decide),fun q=>(by cases q),grown_keeps own' gr4 (by rw [(belNew V3 _).block _ (by have:=HH.out.2.2.2.1; omega)]; exact HH.out.1) (by decide),(by have hz:=(belNew V3 (.cells #[.int .u8 (left:Int)] 5)).size; have hy:=(grown_row gr4).size; have:=HH.out.2.2.2.1; omega),(HH.out.2.2.2.2.trans ((belNew V3 _).mono HH.out.2.2.2.2.size)).grown (grown_row gr4) (by have hz:=(belNew V3 (.cells #[.int .u8 (left:Int)] 5)).size; have:=HH.out.2.2.2.1; omega) (fun k hk=>by have:=(own'.lt k hk).1; omega)⟩; clear own4 gr4 own')))
 refine wp_region_detX 21 [(0,15),(1,16),(2,17),(3,18),(4,19),(5,20)] (tgT V.heap.size d p v u1 bl tg V) (fun _=>undef) (by kernel_rfl) (by kernel_rfl) rfl (by kernel_rfl) (by decide) (by decide) ?_ ?_ ?_
 ·obtain ⟨_,_,_,_,t4,_,_,t6,_,tk,ts,tb⟩:=R4.out
  exact ⟨fun q=>(by cases q),fun q=>(by cases q),fun q=>(by cases q),fun q=>(by cases q),fun q=>t4 q,fun q=>(by cases q),fun q=>(by cases q),fun q=>t6 q,fun q=>(by cases q),tk,ts,tb.drew⟩
 ·intro j hj l x a W hl hf hdep hl2 hcl _ hT
  obtain ⟨t0,t1,t2,t3,t4,t4',t5,t6,t6',tk,ts,tb⟩:=hT
  match j,hj with
  | 0,_=>exact stepV rfl rfl (execFldK1 rfl (hf 4 (by decide))) ⟨_,⟨_,rfl,rfl⟩,fun _=>rfl,t1,t2,t3,t4,t4',t5,t6,t6',tk,ts,tb⟩
  | 1,_=>exact stepV rfl rfl (execLdPart (k:=32) rfl ((hdep _ rfl 0 rfl _ rfl _ rfl).trans (t0 (hl2 _ rfl 0 rfl))) tk (by omega) Tryz.underlying116 rfl (by kernel_rfl)) ⟨_,⟨_,rfl,rfl⟩,t0,fun _=>rfl,t2,t3,t4,t4',t5,t6,t6',tk,ts,tb⟩
  | 2,_=>exact stepV rfl rfl (execMvB rfl (hf 9 (by decide))) ⟨_,⟨_,rfl,rfl⟩,t0,t1,fun _=>rfl,t3,t4,t4',t5,t6,t6',tk,ts,tb⟩
  | 3,_=>exact stepV rfl rfl (execMvB rfl (hf 3 (by decide))) ⟨_,⟨_,rfl,rfl⟩,t0,t1,t2,fun _=>rfl,t4,t4',t5,t6,t6',tk,ts,tb⟩
  | 4,_=>
   have n5:l 5=false:=by
    cases h:l 5 with
    | false=>rfl
    | true=>
     have:=hcl 5 _ rfl h 4 rfl
     rw [hl] at this
     cases this
   have n6:l 6=false:=by
    cases h:l 6 with
    | false=>rfl
    | true=>
     have:=hcl 6 _ rfl h 5 rfl
     rw [n5] at this
     cases this
   have own:=t4 hl
   refine stepApp (m:=bl) (p:=p) rfl rfl rfl ((hdep _ rfl 2 rfl _ rfl _ rfl).trans (t2 (hl2 _ rfl 2 rfl))) ((hdep _ rfl 3 rfl _ rfl _ rfl).trans (t3 (hl2 _ rfl 3 rfl))) own (sliceN_cg (HV.out.2.2.2.on tb) fun j _=>(HP.out.2.2.1 j).symm) HP.out.2.2.2.1 (by have:=HP.out.2.2.2.2; omega) ts ?_
   intro v' W' own' gr
   refine ⟨v',⟨_,rfl,rfl⟩,t0,t1,t2,t3,fun q=>(by cases q),fun _=>own',fun q=>?_,fun _=>grown_keeps own gr (t6 n6) (by decide),fun q=>?_,grown_keeps own gr tk (by decide),Nat.le_trans ts (grown_row gr).size,tb.grown (grown_row gr) (by omega) (fun k hk=>by have:=(own.lt k hk).1; omega)⟩
   ·have q':l 5=true:=q
    rw [n5] at q'; cases q'
   ·have q':l 6=true:=q
    rw [n6] at q'; cases q'
  | 5,_=>
   have n6:l 6=false:=by
    cases h:l 6 with
    | false=>rfl
    | true=>
     have:=hcl 6 _ rfl h 5 rfl
     rw [hl] at this
     cases this
   have h4:l 4=true:=hl2 _ rfl 4 rfl
   have own:=t4' h4
   refine stepC rfl rfl (execCall2 Tryz.func102 (by kernel_rfl) (by kernel_rfl) rfl ((hdep _ rfl 1 rfl _ rfl _ rfl).trans (t1 (hl2 _ rfl 1 rfl))) (hdep _ rfl 4 rfl _ rfl _ rfl)) (shortTag_any (fun j=>d (16+j)) p (17+bl) _ W (HV.out.1.below tb HV.out.1.sz) (fun j _=>HV.out.2.1 _) (own_slice own HP.out.1) (by have:=HP.out.2.2.2.2; omega)) fun e w' h=>?_
   obtain ⟨e1,bw⟩:=h
   refine ⟨_,e1,_,⟨_,rfl,rfl⟩,t0,t1,t2,t3,fun q=>?_,fun _=>ownsRow_below own bw,fun _=>?_,fun _=>?_,fun q=>?_,?_,Nat.le_trans ts bw.size,tb.trans (bw.mono tb.size)⟩
   ·have q':l 4=false:=q
    rw [h4] at q'; cases q'
   ·show Value.agg _=_
    rw [← HT.out]
    rfl
   ·rw [bw.block _ (by omega)]; exact t6 n6
   ·have q':l 6=true:=q
    rw [n6] at q'; cases q'
   ·rw [bw.block _ (by omega)]; exact tk
  | 6,_=>
   have r6:=t6 hl
   refine stepS rfl rfl (execStAll (cells:=bA 16 tg) rfl (hf 8 (by decide)) ((hdep _ rfl 5 rfl _ rfl _ rfl).trans (t5 (hl2 _ rfl 5 rfl))) r6 (by rw [bA_size,bA_size]) (size16 _) (bA_one _ _)) ⟨_,⟨_,rfl,rfl⟩,t0,t1,t2,t3,fun q=>?_,fun q=>?_,t5,fun q=>(by cases q),fun _=>setRow_heap _ _ _ _ _ _ r6,?_,?_,below4 tb (by omega) _⟩
   ·exact ownsRow_row (t4 q) r6 (by decide) _
   ·exact ownsRow_row (t4' q) r6 (by decide) _
   ·rw [setRow_other _ _ _ _ (by omega)]; exact tk
   ·simpa using ts
  | n+7,h=>exact absurd h (by simp)
 ·intro l x W hall hT
  obtain ⟨_,_,_,_,_,_,_,_,t6',tk,ts,tb⟩:=hT
  have r6:=t6' (hall 6 (by simp))
  have R6:Hid (W.heap[V.heap.size+2]?=some (.cells (bA 16 tg) 34)/\Below V.heap.size V W):=⟨r6,tb⟩
  clear hall r6 tb ts tk t6'
  simp only [putP,Act.put,List.setIfInBounds_toArray,List.set_cons_succ,List.set_cons_zero]
  go_wp2
  refine bodyPost_ret (results_cell Tryz.results85 _ _ (V.heap.size+2) 34 _ (0,0) _ rfl R6.out.1 Tryz.underlying34 rfl (size16 _)) rfl ⟨rfl,R6.out.2⟩
end Go.Proofs.YtjckkdjldnobmaaGreatDoor.Oni

namespace Go.Proofs.YtjckkdjldnobmaaGreatDoor.Oni
open Go.RowKit Gf8 Aes By8 Cel
/- replayTag, plainBox, Derive. -/
section
variable {o:Oper} {a:Act} {w:World}
theorem execStRow {x y:Operand} {g k N z:Nat} {f:Nat->Nat} {t:TypeId} (ho:o.op=.store 5 x y) (hx:a.eval x=.pointer (some ⟨g,k,none⟩)) (hy:a.eval y=.int .u8 (z:Int)) (hg:w.heap[g]?=some (.cells (bA N f) t)) (hk:k < N) :
  (execOp a.eval o).run Tryz.prog w=.ok .skip (w.setRow g (bA N (updN f k z))):=by
 have h:=execStB (w:=w) (u:=.int .u8 (f k)) ho hx hy (by rw [cell_of_row _ _ _ _ _ _ hg]; exact bA_at N f hk) (frozen4 hg)
 rw [setCell_eq_setRow w g k (bA N f) t _ _ hg,bA_set] at h
 exact h
theorem execCopyN {x y:Operand} {O off n c m N:Nat} {v:Value} {f p:Nat->Nat} {t:TypeId} (ho:o.op=.call { callee:=.builtin .copy,args:=#[x,y],argTypes:=#[24,24] })
  (hx:a.eval x=.slice (some ⟨O,off,none⟩) n c) (hy:a.eval y=v) (hv:SliceN w v m p) (hO:w.heap[O]?=some (.cells (bA N f) t)) (hmn:n<=m) (h0:0 < n) (hN:off+n<=N) :
  (execOp a.eval o).run Tryz.prog w=.ok (.value (.int .i64 (n:Int))) (w.setRow O (bA N (spl f off n p))):=by
 obtain ⟨⟨ad,cap,rfl,hc1,hc2,hc3⟩,hp⟩:=hv
 obtain ⟨b,of,rfl,hb,hc⟩:=hc3 (by omega)
 have hmin:Nat.min m n=n:=Nat.min_eq_right hmn
 have h:=Aes.execCopyB (cs:=bytesL n p) ho hx hy hO (by rw [bytesL_len,hmin]) ?_ (by rw [bytesL_len,bA_size]; omega) (bytesL_one n p)
 ·rw [bytesL_len,bA_splice N off n f p (by omega)] at h
  exact h
 ·intro j u hj
  have hjc:j < n:=by have:=(List.getElem?_eq_some_iff.1 hj).1; rwa [bytesL_len] at this
  rw [bytesL_at n _ hjc] at hj
  rw [Addr.add_mid,← hj]
  exact hc j (by omega)
theorem execShr8 {x:Operand} {n:Nat} (ho:o.op=.binOp .shr 3 x (.const (.int .u64 8)) 84) (hx:a.eval x=.int .i64 (n:Int)):(execOp a.eval o).run Tryz.prog w=.ok (.value (.int .i64 ((n / 256:Nat):Int))) w:=by
 unfold execOp
 simp only [ho,hx]
 simp [go_sem]
end
end Go.Proofs.YtjckkdjldnobmaaGreatDoor.Oni

namespace Go.Proofs.YtjckkdjldnobmaaGreatDoor.Oni
open Go.RowKit Gf8 Aes By8 Cel
/- plainBox, Derive. -/

theorem pb_row (N n:Nat) (inner:Nat->Nat) (hn:2+n<=N):bA N (spl (updN (updN (fun _=>0) 0 (n / 256)) 1 (n % 256)) 2 n inner)=bA N (pbF n inner):=by
  have _:=hn
  refine bA_congr fun j _=>?_
  unfold spl pbF cellF updN hd2
  by_cases h1:j < 2
  · rw [if_neg (by omega),if_pos h1]
    by_cases h2:j=1
    · rw [if_pos h2,if_neg (by omega)]
    · rw [if_neg h2,if_pos (by omega),if_pos (by omega)]
  · rw [if_neg h1]
    by_cases h2:j < 2+n
    · rw [if_pos (by omega),if_pos h2]
    · rw [if_neg (by omega),if_neg h2,if_neg (by omega),if_neg (by omega)]
set_option maxRecDepth 20000 in
set_option maxHeartbeats 1000000 in
theorem plainBox_any (left:Int) (n:Nat) (inner:Nat->Nat) (v:Value) (V:World) (hs:sz left ≠ 0) (hn:n<=sz left - 34) (hv:SliceN V v n inner) :
    Calls Tryz.prog 84 #[.int .i64 left,v] V fun e w'=>∃ r,e=.returned r/\w'.ownsRow V.heap.size 5 1 r (sz left - 32) (bytesL (sz left - 32) (pbF n inner))/\Below V.heap.size V w':=by
  obtain ⟨_,_,_,h82⟩:=sz_pos hs
  have h320:=sz_le left
  obtain ⟨S,hS⟩:∃ S,sz left=S:=⟨_,rfl⟩
  rw [hS] at hn h82 h320 ⊢
  obtain ⟨N,hN⟩:∃ N,S=N+32:=⟨S - 32,by omega⟩
  subst hN
  rw [show N+32 - 32=N by omega]
  have hN1:50<=N/\N<=288/\n+2<=N:=by omega
  obtain ⟨ao,cap,rfl,_⟩:=id hv.shape
  have PS:=psize_any left V
  rw [hS] at PS
  have HV:Hid (SliceN V (.slice ao n cap) n inner/\50<=N/\N<=288/\n+2<=N):=⟨hv,hN1⟩
  have r1:=heapNew V (.cells (bA N fun _=>0) 5)
  obtain ⟨W1,hW1⟩:∃ W1,V.alloc (.cells (bA N fun _=>0) 5)=W1:=⟨_,rfl⟩
  have b1:=belNew V (.cells (bA N fun _=>0) 5)
  rw [hW1] at r1 b1
  obtain ⟨W2,hW2⟩:∃ W2,W1.setRow V.heap.size (bA N (updN (fun _=>0) 0 (n / 256)))=W2:=⟨_,rfl⟩
  have r2:=setRow_heap _ _ _ (bA N (updN (fun _=>0) 0 (n / 256))) _ _ r1
  have b2:=below4 b1 (Nat.le_refl _) (bA N (updN (fun _=>0) 0 (n / 256)))
  rw [hW2] at r2 b2
  obtain ⟨W3,hW3⟩:∃ W3,W2.setRow V.heap.size (bA N (updN (updN (fun _=>0) 0 (n / 256)) 1 (n % 256)))=W3:=⟨_,rfl⟩
  have r3:=setRow_heap _ _ _ (bA N (updN (updN (fun _=>0) 0 (n / 256)) 1 (n % 256))) _ _ r2
  have b3:=below4 b2 (Nat.le_refl _) (bA N (updN (updN (fun _=>0) 0 (n / 256)) 1 (n % 256)))
  rw [hW3] at r3 b3
  have H3:Hid (Below V.heap.size V W3/\W3.heap[V.heap.size]?=some (.cells (bA N (updN (updN (fun _=>0) 0 (n / 256)) 1 (n % 256))) 5)):=⟨b3,r3⟩
  have H1:Hid (W1.heap[V.heap.size]?=some (.cells (bA N fun _=>0) 5)/\W2.heap[V.heap.size]?=some (.cells (bA N (updN (fun _=>0) 0 (n / 256))) 5)):=⟨r1,r2⟩
  have sl:sliced (some ⟨V.heap.size,0,none⟩) 2 N N 1=.slice (some ⟨V.heap.size,2,none⟩) (N - 2) (N - 2):=by
    unfold sliced
    rw [if_neg (by omega)]
    simp [Addr.add_mid]
  have sg:∀ W,(Instr.sliceAt 24 (.slice (some ⟨V.heap.size,0,none⟩) N N) (some (.int .i64 2)) none none).run Tryz.prog W=.ok (.slice (some ⟨V.heap.size,2,none⟩) (N - 2) (N - 2)) W:=fun W=>by
    have:=By8.slice_l (some ⟨V.heap.size,0,none⟩) N N 2 (by omega) W
    rw [sl] at this
    exact this
  have i0:(0:Int) < (N:Int):=by omega
  have i1:(1:Int) < (N:Int):=by omega
  have i2:(n:Int)<=300:=by omega
  have i3:(N:Int)<=300:=by omega
  clear hs hn h82 h320 hS hN1 hv r1 r2 r3 b1 b2 b3 sl
  go_enter Tryz.func84,Tryz.ntmps84
  go_wp2_with (first
    | (go_at_call 81; refine PS.mono ?_; rintro e w1 ⟨rfl,hw1⟩; subst hw1)
    | (refine wpList_ex rfl (execSubI (p:=N+32) (q:=32) rfl rfl rfl (by omega) (by omega)) ?_; rw [show N+32 - 32=N by omega])
    | (refine wpList_ex rfl (execMk (l:=N) (n:=N) rfl rfl rfl (Nat.le_refl _) (by have:=HV.out; omega)) ?_)
    | (refine wpList_ex rfl (execShr8 (n:=n) rfl rfl) ?_)
    | (refine wpList_ex rfl (execU8s (x:=.tmp 14) (n:=n / 256) rfl rfl (by have:=HV.out; omega)) ?_)
    | (refine wpList_ex rfl (execU8 (x:=.tmp 17) (n:=n) rfl rfl) ?_)
    | (refine atStore 5 (.tmp 19) (.tmp 15) rfl ?_; go_must (refine wpList_exS rfl (execStRow (z:=n / 256) rfl rfl rfl H1.out.1 (by have:=HV.out; omega)) ?_))
    | (refine atStore 5 (.tmp 20) (.tmp 18) rfl ?_; go_must (refine wpList_exS rfl (execStRow (z:=n % 256) rfl rfl rfl H1.out.2 (by have:=HV.out; omega)) ?_))
    | (refine wpList_ex rfl (execCopyZ (x:=.tmp 22) (y:=.tmp 23) rfl rfl rfl (HV.out.1.on H3.out.1) H3.out.2 (by have:=HV.out; omega) (by have:=HV.out; omega)) ?_))
  go_ret
  refine ⟨_,rfl,own_full (n:=N) (by rw [← pb_row N n inner (by have:=HV.out; omega)]; exact setRow_heap _ _ _ _ _ _ H3.out.2) (Nat.le_refl _) (by have:=HV.out; omega),below4 H3.out.1 (Nat.le_refl _) _⟩
theorem sl_lk (g off len cap k:Nat) (hk:k<=len) (hc:k < cap) (W:World):(Instr.sliceAt 24 (.slice (some ⟨g,off,none⟩) len cap) (some (.int .i64 (k:Int))) none none).run Tryz.prog W=.ok (.slice (some ⟨g,off+k,none⟩) (len - k) (cap - k)) W:=by
  have h1:=By8.slice_l (some ⟨g,off,none⟩) len cap k hk W
  have e:sliced (some ⟨g,off,none⟩) k len cap 1=.slice (some ⟨g,off+k,none⟩) (len - k) (cap - k):=by
    unfold sliced
    rw [if_neg (by omega)]
    simp [Addr.add_mid]
  rw [e] at h1
  exact h1
theorem partN {w:World} {g off len cap:Nat} {p:Nat->Nat} (h:SliceN w (.slice (some ⟨g,off,none⟩) len cap) len p) {k:Nat} (hk:k<=len):SliceN w (.slice (some ⟨g,off+k,none⟩) (len - k) (cap - k)) (len - k) fun j=>p (k+j):=by
  obtain ⟨⟨a',cap',e,e1,e2,e3⟩,hp⟩:=h
  obtain ⟨rfl,_,rfl⟩:some (⟨g,off,none⟩:Addr)=a'/\len=len/\cap=cap':=by
    injection e with x y z
    exact ⟨x,rfl,z⟩
  refine ⟨⟨_,_,rfl,by omega,by omega,fun h0=>?_⟩,fun j hj=>hp _ (by omega)⟩
  obtain ⟨b,of,e',hb,hc⟩:=e3 (by omega)
  injection e' with e'
  injection e' with e4 e5
  subst e4 e5
  exact ⟨_,_,rfl,hb,fun j hj=>by rw [Nat.add_assoc]; exact hc _ (by omega)⟩
theorem dk_row (D:Nat->Nat):bA 80 (spl (spl (spl (fun _=>0) 0 16 D) 16 32 (fun j=>D (16+j))) 48 32 fun j=>D (48+j))=bA 80 D:=by
  refine bA_congr fun j hj=>?_
  unfold spl
  by_cases h1:j < 16
  · rw [if_neg (by omega),if_neg (by omega),if_pos (by omega),Nat.sub_zero]
  · by_cases h2:j < 48
    · rw [if_neg (by omega),if_pos (by omega)]; show D (16+(j - 16))=D j; congr 1; omega
    · rw [if_pos (by omega)]; show D (48+(j - 48))=D j; congr 1; omega
theorem ch_slice (W:World):SliceN (W.alloc (.cells #[.int .u8 99,.int .u8 104,.int .u8 117,.int .u8 114,.int .u8 110] 5 (5,6))) (.slice (some ⟨W.heap.size,0,none⟩) 5 5) 5 chF:=
  lit_slice (heapNew W _) (fun j hj=>by
    match j,hj with
    | 0,_=>rfl
    | 1,_=>rfl
    | 2,_=>rfl
    | 3,_=>rfl
    | 4,_=>rfl) chF_lt (by omega)
set_option maxRecDepth 20000 in
theorem pder_bad (key nonce:Nat->Nat) (lk:Nat) (v:Value) (V:World) (hv:SliceN V v lk key) (hl:lk ≠ 32) :
    Calls Tryz.prog 80 #[v,.agg (bA 16 nonce)] V fun e w'=>e=.returned (.tuple #[.agg (bA 80 fun _=>0),.int .i64 2])/\Below V.heap.size V w':=by
  obtain ⟨V2,hV2⟩:∃ V2,(V.alloc (.cells (bA 16 nonce) 34)).alloc (.cells (bA 80 fun _=>0) 152)=V2:=⟨_,rfl⟩
  have hh:=heap2c V (.cells (bA 16 nonce) 34) (.cells (bA 80 fun _=>0) 152)
  have bl:=below2c V (.cells (bA 16 nonce) 34) (.cells (bA 80 fun _=>0) 152)
  rw [hV2] at hh bl
  obtain ⟨ao,cap,rfl,_⟩:=hv.shape
  have i1:((lk:Int) != 32)=true:=by simp; omega
  have zk:=zeroK
  have HH:Hid (V2.heap[V.heap.size+1]?=some (.cells (bA 80 fun _=>0) 152)/\Below V.heap.size V V2):=⟨hh.2,bl⟩
  clear hv hl hh bl
  go_enter Tryz.func80,Tryz.ntmps80
  go_wp2_with (first
    | (refine wpList_ex rfl (execBK rfl) ?_)
    | (refine atStore 152 (.tmp 4) (.tmp 12) rfl ?_; go_must (refine wpList_exS rfl (execStAll (cells:=bA 80 fun _=>0) rfl rfl rfl HH.out.1 (by rw [bA_size]) (size80 _) (bA_one _ _)) ?_)))
  refine bodyPost_ret (results_cell_tmp1 Tryz.results80 _ _ (V.heap.size+1) 152 _ (0,0) _ rfl (setRow_heap _ _ _ _ _ _ HH.out.1) Tryz.underlying152 rfl (size80 _)) rfl ⟨rfl,below4 HH.out.2 (by omega) _⟩
set_option maxRecDepth 20000 in
set_option maxHeartbeats 1000000 in
theorem pder_ok (key nonce:Nat->Nat) (v:Value) (V:World) (hG:Glob V) (hn:By nonce) (hv:SliceN V v 32 key) :
    Calls Tryz.prog 80 #[v,.agg (bA 16 nonce)] V fun e w'=>e=.returned (.tuple #[.agg (bA 80 (dk key nonce)),.int .i64 0])/\Below V.heap.size V w':=by
  obtain ⟨V2,hV2⟩:∃ V2,(V.alloc (.cells (bA 16 nonce) 34)).alloc (.cells (bA 80 fun _=>0) 152)=V2:=⟨_,rfl⟩
  have hh:=heap2c V (.cells (bA 16 nonce) 34) (.cells (bA 80 fun _=>0) 152)
  have bl:=below2c V (.cells (bA 16 nonce) 34) (.cells (bA 80 fun _=>0) 152)
  rw [hV2] at hh bl
  have s2:V2.heap.size=V.heap.size+2:=by rw [← hV2]; simp
  obtain ⟨ao,cap,rfl,_⟩:=id hv.shape
  obtain ⟨D,hD⟩:∃ D,dk key nonce=D:=⟨_,rfl⟩
  have DL:Hid (∀ j,D j < 256):=by rw [← hD]; exact dk_lt key nonce
  obtain ⟨V3,hV3⟩:∃ V3,V2.alloc (.cells #[.int .u8 99,.int .u8 104,.int .u8 117,.int .u8 114,.int .u8 110] 5 (5,6))=V3:=⟨_,rfl⟩
  have cs:=ch_slice V2
  have b3:=belNew V2 (.cells #[.int .u8 99,.int .u8 104,.int .u8 117,.int .u8 114,.int .u8 110] 5 (5,6))
  rw [hV3] at cs b3
  have b03:=bl.trans (b3.mono bl.size)
  have C:=pderive_any (.slice ao 32 cap) (.slice (some ⟨V.heap.size,0,none⟩) 16 16) (.slice (some ⟨V2.heap.size,0,none⟩) 5 5) key nonce V3 (hG.below b03 hG.sz) (hv.on b03) (row_slice (by rw [b3.block _ (by omega)]; exact hh.1) (fun j hj=>hn j hj) (by omega)) cs
  rw [hD] at C
  have HH:Hid (V3.heap[V.heap.size+1]?=some (.cells (bA 80 fun _=>0) 152)/\Below V.heap.size V V3/\V.heap.size+2<=V3.heap.size):=⟨by rw [b3.block _ (by omega)]; exact hh.2,b03,by have:=b3.size; omega⟩
  have kc:=fun (w:World) (C:Array Value) (n c:Nat)=>Lib.run_convert_bytes_const (P:=Tryz.prog) w 24 5 C n c Tryz.underlying24 Tryz.underlying5
  have zk:=zeroK
  have s16:=slK
  have s32:=slK2
  rw [hD]
  clear hG hn hv hh bl s2 cs b3 b03
  go_enter Tryz.func80,Tryz.ntmps80
  go_wp2_with (first
    | (go_at_call 50
       refine C.mono ?_
       rintro e w1 ⟨r,rfl,own,hb1⟩
       obtain ⟨g,pc,rfl,hB,hc,_⟩:=own_cells own (by decide)
       have sp:=own_slice own (fun j _=>DL.out j)
       have HC:Hid (80<=pc):=hc
       have q1:=sl_lk g 0 80 pc 16 (by omega) (by omega)
       have q2:=sl_lk g 16 64 (pc - 16) 32 (by omega) (by omega)
       have g1:∀ W,(Instr.sliceAt 24 (.slice (some ⟨g,0,none⟩) 80 pc) (some (.int .i64 16)) none none).run Tryz.prog W=.ok (.slice (some ⟨g,16,none⟩) 64 (pc - 16)) W:=q1
       have g2:∀ W,(Instr.sliceAt 24 (.slice (some ⟨g,16,none⟩) 64 (pc - 16)) (some (.int .i64 32)) none none).run Tryz.prog W=.ok (.slice (some ⟨g,48,none⟩) 32 (pc - 16 - 32)) W:=q2
       have p1:=partN sp (k:=16) (by omega)
       have p2:=partN p1 (k:=32) (by omega)
       have p2':SliceN w1 (.slice (some ⟨g,48,none⟩) 32 (pc - 16 - 32)) 32 (fun j=>D (48+j)):=sliceN_cg p2 (fun j _=>by show D (16+(32+j))=D (48+j); congr 1; omega)
       have SP:Hid (SliceN w1 (.slice (some ⟨g,0,none⟩) 80 pc) 80 D/\SliceN w1 (.slice (some ⟨g,16,none⟩) 64 (pc - 16)) 64 (fun j=>D (16+j))/\SliceN w1 (.slice (some ⟨g,48,none⟩) 32 (pc - 16 - 32)) 32 (fun j=>D (48+j))):=⟨sp,(by have:=p1; rw [Nat.zero_add] at this; exact this),p2'⟩
       have B1:Hid (Below V.heap.size V w1/\w1.heap[V.heap.size+1]?=some (.cells (bA 80 fun _=>0) 152)/\V.heap.size+2<=w1.heap.size):=⟨HH.out.2.1.trans (hb1.mono HH.out.2.1.size),by rw [hb1.block _ (by have:=HH.out.2.2; omega)]; exact HH.out.1,Nat.le_trans HH.out.2.2 hb1.size⟩
       obtain ⟨X0,hX0⟩:∃ X0,w1.alloc (.cells (bA 80 fun _=>0) 152)=X0:=⟨_,rfl⟩
       have x0:=heapNew w1 (.cells (bA 80 fun _=>0) 152)
       have y0:=belNew w1 (.cells (bA 80 fun _=>0) 152)
       rw [hX0] at x0 y0
       obtain ⟨X1,hX1⟩:∃ X1,X0.setRow w1.heap.size (bA 80 (spl (fun _=>0) 0 16 D))=X1:=⟨_,rfl⟩
       have x1:=setRow_heap _ _ _ (bA 80 (spl (fun _=>0) 0 16 D)) _ _ x0
       have y1:=below4 y0 (Nat.le_refl _) (bA 80 (spl (fun _=>0) 0 16 D))
       rw [hX1] at x1 y1
       obtain ⟨X2,hX2⟩:∃ X2,X1.setRow w1.heap.size (bA 80 (spl (spl (fun _=>0) 0 16 D) 16 32 fun j=>D (16+j)))=X2:=⟨_,rfl⟩
       have x2:=setRow_heap _ _ _ (bA 80 (spl (spl (fun _=>0) 0 16 D) 16 32 fun j=>D (16+j))) _ _ x1
       have y2:=below4 y1 (Nat.le_refl _) (bA 80 (spl (spl (fun _=>0) 0 16 D) 16 32 fun j=>D (16+j)))
       rw [hX2] at x2 y2
       obtain ⟨X3,hX3⟩:∃ X3,X2.setRow w1.heap.size (bA 80 D)=X3:=⟨_,rfl⟩
       have x3:=setRow_heap _ _ _ (bA 80 D) _ _ x2
       have y3:=below4 y2 (Nat.le_refl _) (bA 80 D)
       rw [hX3] at x3 y3
       have XX:Hid (X0.heap[w1.heap.size]?=some (.cells (bA 80 fun _=>0) 152)/\X1.heap[w1.heap.size]?=some (.cells (bA 80 (spl (fun _=>0) 0 16 D)) 152)/\X2.heap[w1.heap.size]?=some (.cells (bA 80 (spl (spl (fun _=>0) 0 16 D) 16 32 fun j=>D (16+j))) 152)/\X3.heap[w1.heap.size]?=some (.cells (bA 80 D) 152)):=⟨x0,x1,x2,x3⟩
       have YY:Hid (Below w1.heap.size w1 X0/\Below w1.heap.size w1 X1/\Below w1.heap.size w1 X2/\Below w1.heap.size w1 X3):=⟨y0,y1,y2,y3⟩
       clear own hb1 hB hc sp q1 q2 p1 p2 p2' x0 x1 x2 x3 y0 y1 y2 y3)
    | (refine wpList_ex (v:=.int .i64 16) rfl (execCopyN (x:=.tmp 27) (y:=.tmp 28) (n:=16) rfl rfl rfl (SP.out.1.on YY.out.1) XX.out.1 (by omega) (by omega) (by omega)) ?_)
    | (refine wpList_ex (v:=.int .i64 32) rfl (execCopyN (x:=.tmp 33) (y:=.tmp 34) (n:=32) rfl rfl rfl (SP.out.2.1.on YY.out.2.1) XX.out.2.1 (by omega) (by omega) (by omega)) ?_)
    | (refine wpList_ex (v:=.int .i64 32) rfl (execCopyN (x:=.tmp 38) (y:=.tmp 39) (n:=32) rfl rfl rfl (SP.out.2.2.on YY.out.2.2.1) XX.out.2.2.1 (by omega) (by omega) (by omega)) ?_; rw [dk_row,hX3])
    | (refine atLoad 152 (.tmp 8) rfl ?_; go_must (refine wpList_ex rfl (execLdAll rfl rfl XX.out.2.2.2 Tryz.underlying152 rfl (size80 _)) ?_))
    | (refine atStore 152 (.tmp 4) (.tmp 41) rfl ?_; go_must (refine wpList_exS rfl (execStAll (cells:=bA 80 D) rfl rfl rfl (by rw [YY.out.2.2.2.block _ (by have:=B1.out.2.2; omega)]; exact B1.out.2.1) (by rw [bA_size,bA_size]) (size80 _) (bA_one _ _)) ?_)))
  have b9:=B1.out.1.trans (YY.out.2.2.2.mono B1.out.1.size)
  refine bodyPost_ret (results_cell_tmp1 Tryz.results80 _ _ (V.heap.size+1) 152 _ (0,0) _ rfl (setRow_heap _ _ _ _ _ _ (by rw [YY.out.2.2.2.block _ (by have:=B1.out.2.2; omega)]; exact B1.out.2.1)) Tryz.underlying152 rfl (size80 _)) rfl ⟨rfl,below4 b9 (by omega) _⟩
end Go.Proofs.YtjckkdjldnobmaaGreatDoor.Oni
