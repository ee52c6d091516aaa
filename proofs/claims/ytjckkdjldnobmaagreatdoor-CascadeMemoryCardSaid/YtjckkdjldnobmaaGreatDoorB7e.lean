import Derived.Test.YtjckkdjldnobmaaGreatDoorB7a
import Derived.Test.YtjckkdjldnobmaaGreatDoorX5q
namespace Go.Proofs.YtjckkdjldnobmaaGreatDoor.Rou
open Go.RowKit Gf8 Aes By8 Cel Oni
/- Key: the epoch's bytes, the program's Key. -/
def epF (n:Nat):Nat->Nat:=fun i=>n / 2 ^ (8 * (7 - i)) % 256
theorem epF_lt (n i:Nat):epF n i < 256:=Nat.mod_lt _ (by omega)
def rk (m:Nat->Nat) (n:Nat):Nat->Nat:=fun j=>(ebK (exK (ci m) 32 (ci (epF n)) 8) 32 (ci hopF) 9 j).toNat
theorem rk_lt (m:Nat->Nat) (n j:Nat):rk m n j < 256:=by
 have:=eb_bd (inS (exK (ci m) 32 (ci (epF n)) 8) 32) (outS (exK (ci m) 32 (ci (epF n)) 8) 32) (ci hopF) 9 j
 unfold rk ebK
 omega
theorem rk_ci (m:Nat->Nat) (n:Nat):ci (rk m n)=ebK (exK (ci m) 32 (ci (epF n)) 8) 32 (ci hopF) 9:=by
 funext j
 have:=eb_bd (inS (exK (ci m) 32 (ci (epF n)) 8) 32) (outS (exK (ci m) 32 (ci (epF n)) 8) 32) (ci hopF) 9 j
 exact Int.toNat_of_nonneg this.1
def rkE (l:Nat) (e:Int):Nat:=if l ≠ 32\/e < 0\/4611686018427387904 < e then 2 else 0
def rkN (l:Nat) (e:Int):Nat:=if rkE l e=0 then 32 else 0
theorem hopF_lt (j:Nat) (h:j < 9):hopF j < 256:=by
 have:∀ i:Fin 9,hopF i.val < 256:=by decide
 exact this ⟨j,h⟩
theorem hop_slice (W:World):SliceN (W.alloc (.cells #[.int .u8 99,.int .u8 104,.int .u8 117,.int .u8 114,.int .u8 110,.int .u8 32,.int .u8 104,.int .u8 111,.int .u8 112] 5 (9,10))) (.slice (some ⟨W.heap.size,0,none⟩) 9 9) 9 hopF:=
 lit_slice (heapNew W _) (fun j hj=>by
  match j,hj with
  | 0,_=>rfl
  | 1,_=>rfl
  | 2,_=>rfl
  | 3,_=>rfl
  | 4,_=>rfl
  | 5,_=>rfl
  | 6,_=>rfl
  | 7,_=>rfl
  | 8,_=>rfl) hopF_lt (by omega)
section
variable {o:Oper} {a:Act} {w:World}
theorem execShrN {x y:Operand} {n k:Nat} (ho:o.op=.binOp .shr 2 x y 3) (hx:a.eval x=.int .i64 (n:Int)) (hy:a.eval y=.int .i64 (k:Int)) (hk:k < 64):(execOp a.eval o).run Tryz.prog w=.ok (.value (.int .i64 ((n / 2 ^ k:Nat):Int))) w:=by
 have _:=hk
 unfold execOp
 simp only [ho,hx,hy]
 simp [go_sem]
theorem execShrU {x y:Operand} {n k:Nat} (ho:o.op=.binOp .shr 2 x y 84) (hx:a.eval x=.int .i64 (n:Int)) (hy:a.eval y=.int .u64 (k:Int)) (hk:k < 64):(execOp a.eval o).run Tryz.prog w=.ok (.value (.int .i64 ((n / 2 ^ k:Nat):Int))) w:=by
 have _:=hk
 unfold execOp
 simp only [ho,hx,hy]
 simp [go_sem]
theorem execU8L {x:Operand} {n:Nat} (ho:o.op=.convert 2 5 x) (hx:a.eval x=.int .i64 (n:Int)):(execOp a.eval o).run Tryz.prog w=.ok (.value (.int .u8 ((n % 256:Nat):Int))) w:=by
 unfold execOp
 simp only [ho,hx]
 simp [go_sem,IntKind.wrap,show IntKind.u8.signed=false from rfl]
theorem execCU {x:Operand} {n:Nat} (ho:o.op=.convert 3 84 x) (hx:a.eval x=.int .i64 (n:Int)) (hn:n < 9223372036854775808):(execOp a.eval o).run Tryz.prog w=.ok (.value (.int .u64 (n:Int))) w:=by
 unfold execOp
 simp only [ho,hx]
 simp [go_sem,IntKind.wrap,IntKind.bits,IntKind.signed]
 omega
theorem execIdx8 {x i:Operand} {g k:Nat} (ho:o.op=.indexAddr 122 x i) (hx:a.eval x=.pointer (some ⟨g,0,none⟩)) (hi:a.eval i=.int .i64 (k:Int)) (hk:k < 8):(execOp a.eval o).run Tryz.prog w=.ok (.value (.pointer (some ⟨g,k,none⟩))) w:=by
 have h1:(k:Int) < 8:=by omega
 unfold execOp
 simp only [ho,hx,hi]
 simp [go_sem,h1]
end
theorem zero8:∀ w,(zeroValue 122).run Tryz.prog w=.ok (.agg (bA 8 fun _=>0)) w:=
 (zero_of_info (n:=8) (by kernel_rfl)).1
theorem sl8 (b:Nat) (W:World):(Instr.sliceAt 122 (.pointer (some ⟨b,0,none⟩)) none none none).run Tryz.prog W=.ok (.slice (some ⟨b,0,none⟩) 8 8) W:=by
 simp [Instr.sliceAt,Instr.sureAddr,run_underlying Tryz.underlying122,Instr.sliceBounds,go_sem]
theorem size8 (f:Nat->Nat):(Tryz.prog.info? 122).map (·.size)=some (bA 8 f).size:=by rw [bA_size]; kernel_rfl
end Go.Proofs.YtjckkdjldnobmaaGreatDoor.Rou

namespace Go.Proofs.YtjckkdjldnobmaaGreatDoor.Rou
open Go.RowKit Gf8 Aes By8 Cel Oni
/- The reference's Key. -/
theorem rdeh_fr (vs vt vi:Value) (m:Nat->Nat) (n:Nat) (w:World) (h0:SliceN w vs 32 m) (h1:SliceN w vt 8 (epF n)) (h2:SliceN w vi 9 hopF) :
  Calls Tryz.prog 25 #[vs,vt,vi,.int .i64 32] w fun e w'=>∃ v',e=.returned (.tuple #[v',.int .i64 0])/\SliceN w' v' 32 (rk m n)/\FrB w.heap.size w' v'/\Below w.heap.size w w':=by
 refine (rderive_fr vs vt vi 32 8 9 (ci m) (ci (epF n)) (ci hopF) 32 w (by omega) (by omega) (by omega) (toB h0) (toB h1) (toB h2) (some_nil h0 (by omega)) (some_nil h1 (by omega)) (some_nil h2 (by omega))).mono ?_
 rintro e w' ⟨v',rfl,s,f,hb⟩
 rw [show expN 32=32 from rfl,← rk_ci] at s
 exact ⟨v',rfl,⟨s.shape,fun j _=>rk_lt _ _ j⟩,f,hb⟩
set_option maxRecDepth 20000 in
set_option maxHeartbeats 1000000 in
theorem rkey_fr (m:Nat->Nat) (l:Nat) (ep:Int) (v:Value) (V:World) (hv:SliceN V v l m) :
  Calls Tryz.prog 13 #[v,.int .i64 ep] V fun e w'=>∃ r,e=.returned (.tuple #[r,.int .i64 (rkE l ep:Nat)])/\SliceN w' r (rkN l ep) (rk m ep.toNat)/\FrB V.heap.size w' r/\Below V.heap.size V w':=by
 obtain ⟨ao,cap,rfl,_⟩:=id hv.shape
 have nils:SliceN V (.slice none 0 0) 0 (rk m ep.toNat):=⟨⟨none,0,rfl,Nat.le_refl _,by omega,fun h=>by omega⟩,fun j hj=>by omega⟩
 by_cases hbad:l ≠ 32\/ep < 0\/4611686018427387904 < ep
 ·have E:rkE l ep=2:=if_pos hbad
  have E2:rkN l ep=0:=by unfold rkN; rw [E]; rfl
  rw [E,E2]
  clear E E2 hv
  by_cases hl:l=32
  ·have i1:((l:Int) != 32)=false:=by simp; omega
   by_cases h0:ep < 0
   ·clear hbad
    go_enter Tryz.func13,Tryz.ntmps13
    go_wp2_with fail
    refine bodyPost_ret (results_tmp2 rfl _ _ _) rfl ⟨_,rfl,nils,fr_nil,Below.refl _ _⟩
   ·have h1:ep > 4611686018427387904:=by omega
    clear hbad
    go_enter Tryz.func13,Tryz.ntmps13
    go_wp2_with fail
    refine bodyPost_ret (results_tmp2 rfl _ _ _) rfl ⟨_,rfl,nils,fr_nil,Below.refl _ _⟩
  ·have i1:((l:Int) != 32)=true:=by simp; omega
   clear hbad
   go_enter Tryz.func13,Tryz.ntmps13
   go_wp2_with fail
   refine bodyPost_ret (results_tmp2 rfl _ _ _) rfl ⟨_,rfl,nils,fr_nil,Below.refl _ _⟩
 ·obtain rfl:l=32:=by
   by_cases h:l=32
   ·exact h
   ·exact absurd (Or.inl h) hbad
  have E:rkE 32 ep=0:=if_neg hbad
  have E2:rkN 32 ep=32:=by unfold rkN; rw [E]; rfl
  rw [E,E2]
  obtain ⟨n,rfl⟩:∃ n:Nat,ep=n:=⟨ep.toNat,by omega⟩
  rw [show (n:Int).toNat=n from by simp]
  have h0:¬ (n:Int) < 0:=by omega
  have h1:¬ (n:Int) > 4611686018427387904:=by omega
  have HV:Hid (SliceN V (.slice ao 32 cap) 32 m):=hv
  have kc:=fun (w:World) (C:Array Value) (n c:Nat)=>Lib.run_convert_bytes_const (P:=Tryz.prog) w 24 5 C n c Tryz.underlying24 Tryz.underlying5
  clear hbad E E2 hv nils
  go_enter Tryz.func13,Tryz.ntmps13
  go_wp2_with fail
  go_loopw [6,7] (fun u x W=>∃ j:Nat,j<=8/\x=.int .i64 (56 - 8 * (j:Int))/\W.ownsRow V.heap.size 5 1 u j (bytesL j (epF n))/\Below V.heap.size V W) (fun u _ _=>8 - Cel.lenV u)
  case atStart=>exact ⟨0,Nat.zero_le _,by go_num,World.ownsRow_nil _ _ _ _,Below.refl _ _⟩
  case round=>
   obtain ⟨j,hj,rfl,own,bel⟩:=hrel
   obtain ⟨a1,cp,rfl⟩:=own_shapeJ own
   have OW:Hid (_):=own
   have BL:Hid (Below V.heap.size V wr):=bel
   by_cases hlt:j < 8
   ·obtain ⟨i,hi⟩:∃ i:Nat,8 * (7 - j)=i:=⟨_,rfl⟩
    have e1:56 - 8 * (j:Int)=i:=by omega
    rw [e1]
    have i1:(i:Int) ≥ 0:=by omega
    have i2:(i:Int)<=56:=by omega
    have HK:Hid (j < 8/\8 * (7 - j)=i/\i<=56/\(i:Int)=56 - 8 * (j:Int)):=⟨hlt,hi,by omega,e1.symm⟩
    have EQ:Hid (n / 2 ^ i % 256=epF n j):=by
     show n / 2 ^ i % 256=epF n j
     unfold epF
     rw [hi]
    clear own bel hj hlt hi e1
    go_wp2_with (first
     | (refine wpList_ex rfl (execCU (x:=.tmp 25) (n:=i) rfl rfl (by have:=HK.out; omega)) ?_)
     | (refine wpList_ex rfl (execShrU (x:=.tmp 24) (n:=n) (k:=i) rfl rfl rfl (by have:=HK.out; omega)) ?_)
     | (refine wpList_ex rfl (execU8L (x:=.tmp 27) rfl rfl) ?_; rw [EQ.out])
     | (refine atAppB (.tmp 23) (.tmp 29) rfl ?_; go_must (refine wpList_app1 (B:=V.heap.size) (n:=j) (g:=wr.heap.size) (p:=epF n) (w0:=V) rfl (.tmp 23) (.tmp 29) rfl rfl rfl (ownsRow_below OW.out (belNew wr _)) (heapNew wr _) (by have:=HK.out; omega) (BL.out.trans ((belNew wr _).mono BL.out.size)) (by have:=BL.out.size; simp; omega) ?_; intro u2 W2 own2 _ b2 _; obtain ⟨a2,c2,rfl⟩:=own_shapeJ own2)))
    go_roundw
    case rel=>exact ⟨j+1,by have:=HK.out; omega,by have:=HK.out; go_num,own2,b2⟩
    case measure=>have:=HK.out; show 8 - (j+1) < 8 - j; omega
   ·have ek:j=8:=by omega
    subst ek
    have i1:¬ (56 - 8 * ((8:Nat):Int)) ≥ 0:=by omega
    clear own bel hj hlt
    go_wp2_with (go_at_call 25; have b3:=belNew wr (.cells #[.int .u8 99,.int .u8 104,.int .u8 117,.int .u8 114,.int .u8 110,.int .u8 32,.int .u8 104,.int .u8 111,.int .u8 112] 5 (9,10)); have b03:=BL.out.trans (b3.mono BL.out.size); refine (rdeh_fr _ _ _ m n _ (HV.out.on b03) (own_slice (ownsRow_below OW.out b3) (fun j _=>epF_lt n j)) (hop_slice wr)).mono ?_; rintro e w4 ⟨r4,rfl,s4,f4,hb4⟩; have O4:Hid (SliceN w4 r4 32 (rk m n)/\FrB V.heap.size w4 r4/\Below V.heap.size V w4):=⟨s4,f4.le b03.size,b03.trans (hb4.mono b03.size)⟩; clear s4 f4 hb4 b3 b03)
    refine bodyPost_ret (results_tmp2 rfl _ _ _) rfl ⟨_,rfl,O4.out.1,O4.out.2.1,O4.out.2.2⟩
end Go.Proofs.YtjckkdjldnobmaaGreatDoor.Rou
