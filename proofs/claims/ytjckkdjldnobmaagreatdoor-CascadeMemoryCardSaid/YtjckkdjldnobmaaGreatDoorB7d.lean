import Derived.Test.YtjckkdjldnobmaaGreatDoorB7e
namespace Go.Proofs.YtjckkdjldnobmaaGreatDoor.Rou
open Go.RowKit Gf8 Aes By8 Cel Oni
/- The program's Key. -/
set_option maxRecDepth 20000 in
set_option maxHeartbeats 1000000 in
theorem epoch_any (n:Nat) (V:World):Calls Tryz.prog 49 #[.int .i64 (n:Int)] V fun e w'=>e=.returned (.agg (bA 8 (epF n)))/\Below V.heap.size V w':=by
 obtain ⟨V2,hV2⟩:∃ V2,(V.alloc (.cells (bA 8 fun _=>0) 122)).alloc (.cells (bA 8 fun _=>0) 122)=V2:=⟨_,rfl⟩
 have hh:=heap2c V (.cells (bA 8 fun _=>0) 122) (.cells (bA 8 fun _=>0) 122)
 have bl:=below2c V (.cells (bA 8 fun _=>0) 122) (.cells (bA 8 fun _=>0) 122)
 rw [hV2] at hh bl
 have z8:=zero8
 have H2:Hid (V2.heap[V.heap.size]?=some (.cells (bA 8 fun _=>0) 122)/\V2.heap[V.heap.size+1]?=some (.cells (bA 8 (uptoC (epF n) 0)) 122)/\Below V.heap.size V V2):=⟨hh.1,hh.2,bl⟩
 clear hh bl
 go_enter Tryz.func49,Tryz.ntmps49
 go_wp2_with fail
 go_loopw [5] (fun z W=>∃ i:Nat,i<=8/\z=.int .i64 (i:Int)/\W.heap[V.heap.size]?=some (.cells (bA 8 fun _=>0) 122)/\W.heap[V.heap.size+1]?=some (.cells (bA 8 (uptoC (epF n) i)) 122)/\Below V.heap.size V W) (fun z _=>8 - (intOf z).toNat)
 case atStart=>exact ⟨0,by omega,rfl,H2.out.1,H2.out.2.1,H2.out.2.2⟩
 case round=>
  obtain ⟨i,hi,rfl,q0,q1,q2⟩:=hrel
  have QQ:Hid (wr.heap[V.heap.size]?=some (.cells (bA 8 fun _=>0) 122)/\wr.heap[V.heap.size+1]?=some (.cells (bA 8 (uptoC (epF n) i)) 122)/\Below V.heap.size V wr/\i<=8):=⟨q0,q1,q2,hi⟩
  by_cases hlt:i < 8
  ·have i2:(i:Int) < 8:=by omega
   have HL:Hid (i < 8):=hlt
   clear q0 q1 q2 hi hlt
   go_wp2_with (first
    | (refine wpList_ex rfl (execSubI (x:=.const (.int .i64 7)) (p:=7) (q:=i) rfl rfl rfl (by have:=HL.out; omega) (by omega)) ?_)
    | (refine wpList_ex rfl (execMulI (x:=.const (.int .i64 8)) (p:=8) (q:=7 - i) rfl rfl rfl (by omega)) ?_)
    | (refine wpList_ex rfl (execShrN (x:=.tmp 9) (n:=n) (k:=8 * (7 - i)) rfl rfl rfl (by omega)) ?_)
    | (refine wpList_ex rfl (execU8L (x:=.tmp 13) rfl rfl) ?_)
    | (refine wpList_ex rfl (execIdx8 (x:=.tmp 3) (k:=i) rfl rfl rfl HL.out) ?_)
    | (refine atStore 5 (.tmp 15) (.tmp 14) rfl ?_; go_must (refine wpList_exS rfl (execStRow (z:=epF n i) (k:=i) rfl rfl rfl QQ.out.2.1 HL.out) ?_)))
   go_roundw
   case rel=>exact ⟨i+1,HL.out,by go_num,by rw [setRow_other _ _ _ _ (by omega)]; exact QQ.out.1,by rw [← updN_upto]; exact setRow_heap _ _ _ _ _ _ QQ.out.2.1,below4 QQ.out.2.2.1 (by omega) _⟩
   case measure=>have:=HL.out; simp [intOf]; omega
  ·have i2:¬ (i:Int) < 8:=by omega
   have e8:bA 8 (uptoC (epF n) i)=bA 8 (epF n):=bA_congr fun j hj=>by unfold uptoC; rw [if_pos (by omega)]
   rw [e8] at q1
   have Q3:Hid (wr.heap[V.heap.size+1]?=some (.cells (bA 8 (epF n)) 122)):=q1
   clear q0 q1 q2 hi hlt e8
   go_wp2_with (first
    | (refine atLoad 122 (.tmp 3) rfl ?_; go_must (refine wpList_ex rfl (execLdAll rfl rfl Q3.out Tryz.underlying122 rfl (size8 _)) ?_))
    | (refine atStore 122 (.tmp 2) (.tmp 17) rfl ?_; go_must (refine wpList_exS rfl (execStAll (cells:=bA 8 (epF n)) rfl rfl rfl QQ.out.1 (by rw [bA_size,bA_size]) (size8 _) (bA_one _ _)) ?_)))
   refine bodyPost_ret (results_cell Tryz.results49 _ _ V.heap.size 122 _ (0,0) _ rfl (setRow_heap _ _ _ _ _ _ QQ.out.1) Tryz.underlying122 rfl (size8 _)) rfl ⟨rfl,below4 QQ.out.2.2.1 (Nat.le_refl _) _⟩
theorem pdeh_any (vs vt vi:Value) (m:Nat->Nat) (n:Nat) (w:World) (hG:Glob w) (h0:SliceN w vs 32 m) (h1:SliceN w vt 8 (epF n)) (h2:SliceN w vi 9 hopF) :
  Calls Tryz.prog 50 #[vs,vt,vi,.int .i64 32] w fun e w'=>∃ v',e=.returned (.tuple #[v',.int .i64 0])/\w'.ownsRow w.heap.size 5 1 v' 32 (bytesL 32 (rk m n))/\Below w.heap.size w w':=by
 refine (mderive_any vs vt vi 32 8 9 (ci m) (ci (epF n)) (ci hopF) 32 w hG (by omega) (by omega) (by omega) (toB h0) (toB h1) (toB h2)).mono ?_
 rintro e w' ⟨v',rfl,own,hb⟩
 rw [show expN 32=32 from rfl,← rk_ci,vals_ci] at own
 exact ⟨v',rfl,own,hb⟩
set_option maxRecDepth 20000 in
set_option maxHeartbeats 1000000 in
theorem pkey_any (m:Nat->Nat) (l:Nat) (ep:Int) (v:Value) (V:World) (hG:Glob V) (hv:SliceN V v l m) :
  Calls Tryz.prog 28 #[v,.int .i64 ep] V fun e w'=>∃ r,e=.returned (.tuple #[r,.int .i64 (rkE l ep:Nat)])/\w'.ownsRow V.heap.size 5 1 r (rkN l ep) (bytesL (rkN l ep) (rk m ep.toNat))/\Below V.heap.size V w':=by
 obtain ⟨ao,cap,rfl,_⟩:=id hv.shape
 by_cases hbad:l ≠ 32\/ep < 0\/4611686018427387904 < ep
 ·have E:rkE l ep=2:=if_pos hbad
  have E2:rkN l ep=0:=by unfold rkN; rw [E]; rfl
  rw [E,E2]
  clear E E2 hG hv
  by_cases hl:l=32
  ·have i1:((l:Int) != 32)=false:=by simp; omega
   by_cases h0:ep < 0
   ·clear hbad
    go_enter Tryz.func28,Tryz.ntmps28
    go_wp2_with fail
    refine bodyPost_ret (results_tmp2 rfl _ _ _) rfl ⟨_,rfl,World.ownsRow_nil _ _ _ _,Below.refl _ _⟩
   ·have h1:ep > 4611686018427387904:=by omega
    clear hbad
    go_enter Tryz.func28,Tryz.ntmps28
    go_wp2_with fail
    refine bodyPost_ret (results_tmp2 rfl _ _ _) rfl ⟨_,rfl,World.ownsRow_nil _ _ _ _,Below.refl _ _⟩
  ·have i1:((l:Int) != 32)=true:=by simp; omega
   clear hbad
   go_enter Tryz.func28,Tryz.ntmps28
   go_wp2_with fail
   refine bodyPost_ret (results_tmp2 rfl _ _ _) rfl ⟨_,rfl,World.ownsRow_nil _ _ _ _,Below.refl _ _⟩
 ·obtain rfl:l=32:=by
   by_cases h:l=32
   ·exact h
   ·exact absurd (Or.inl h) hbad
  have E:rkE 32 ep=0:=if_neg hbad
  have E2:rkN 32 ep=32:=by unfold rkN; rw [E]; rfl
  rw [E,E2]
  obtain ⟨n,rfl⟩:∃ n:Nat,ep=n:=⟨ep.toNat,by omega⟩
  rw [show (n:Int).toNat=n from by simp]
  have h0:¬ (n:Int) < 0:=by omega
  have h1:¬ (n:Int) > 4611686018427387904:=by omega
  have HV:Hid (Glob V/\SliceN V (.slice ao 32 cap) 32 m):=⟨hG,hv⟩
  have EP:=epoch_any n V
  have kc:=fun (w:World) (C:Array Value) (n c:Nat)=>Lib.run_convert_bytes_const (P:=Tryz.prog) w 24 5 C n c Tryz.underlying24 Tryz.underlying5
  have z8:=zero8
  have s8:=sl8
  clear hbad E E2 hG hv
  go_enter Tryz.func28,Tryz.ntmps28
  go_wp2_with (first
   | (go_at_call 49; refine EP.mono ?_; rintro e w1 ⟨rfl,hb1⟩; have B1:Hid (Below V.heap.size V w1):=hb1; clear hb1)
   | (refine atStore 122 (.tmp 6) (.tmp 19) rfl ?_; go_must (refine wpList_exS rfl (execStAll (cells:=bA 8 (epF n)) rfl rfl rfl (heapNew w1 _) (by rw [bA_size,bA_size]) (size8 _) (bA_one _ _)) ?_; obtain ⟨W2,hW2⟩:∃ W2,(w1.alloc (.cells (bA 8 fun _=>0) 122)).setRow w1.heap.size (bA 8 (epF n))=W2:=⟨_,rfl⟩; have k2:W2.heap[w1.heap.size]?=some (.cells (bA 8 (epF n)) 122):=(by rw [← hW2]; exact setRow_heap _ _ _ _ _ _ (heapNew w1 _)); have b2:Below w1.heap.size w1 W2:=(by rw [← hW2]; exact below4 (belNew w1 _) (Nat.le_refl _) _); have B2:Hid (W2.heap[w1.heap.size]?=some (.cells (bA 8 (epF n)) 122)/\Below V.heap.size V W2):=⟨k2,B1.out.trans (b2.mono B1.out.size)⟩; rw [hW2]; clear k2 b2 hW2))
   | (go_at_call 50; have b3:=belNew W2 (.cells #[.int .u8 99,.int .u8 104,.int .u8 117,.int .u8 114,.int .u8 110,.int .u8 32,.int .u8 104,.int .u8 111,.int .u8 112] 5 (9,10)); have b03:=B2.out.2.trans (b3.mono B2.out.2.size); refine (pdeh_any _ _ _ m n _ (HV.out.1.below b03 HV.out.1.sz) (HV.out.2.on b03) (row_slice (by rw [b3.block _ (Array.getElem?_eq_some_iff.1 B2.out.1).1]; exact B2.out.1) (fun j _=>epF_lt n j) (by omega)) (hop_slice W2)).mono ?_; rintro e w4 ⟨r4,rfl,own4,hb4⟩; have O4:Hid (w4.ownsRow V.heap.size 5 1 r4 32 (bytesL 32 (rk m n))/\Below V.heap.size V w4):=⟨own_base own4 b03.size,b03.trans (hb4.mono b03.size)⟩; clear own4 hb4 b3 b03))
  refine bodyPost_ret (results_tmp2 rfl _ _ _) rfl ⟨_,rfl,O4.out.1,O4.out.2⟩
end Go.Proofs.YtjckkdjldnobmaaGreatDoor.Rou
