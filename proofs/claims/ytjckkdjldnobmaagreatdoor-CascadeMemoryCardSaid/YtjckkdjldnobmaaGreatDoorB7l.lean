import Derived.Test.YtjckkdjldnobmaaGreatDoorX5q
import Derived.Test.YtjckkdjldnobmaaGreatDoorX6n
import Derived.Test.YtjckkdjldnobmaaGreatDoorX7f
import Derived.Test.YtjckkdjldnobmaaGreatDoorC6
namespace Go.Proofs.YtjckkdjldnobmaaGreatDoor.Rou
open Go.RowKit Gf8 Aes By8 Cel Oni
/- A chain in the heap; isChain, areKeys. -/
structure Nons (W:World) (v:Value) (n:Nat) (q:Nat->Nat->Nat):Prop where
 shape:∃ a cap,v=.slice a n cap/\n<=cap/\cap < 9223372036854775808/\(0 < n->∃ b off,a=some ⟨b,off,none⟩/\b < W.heap.size/\∀ i,i < n->∀ j,j < 16->W.cell? ⟨b,off+i * 16+j,none⟩=some (.int .u8 (q i j)))
 by_:∀ i,i < n->By (q i)
theorem Nons.on {W W':World} {v:Value} {n:Nat} {q:Nat->Nat->Nat} (h:Nons W v n q) (hb:Below W.heap.size W W'):Nons W' v n q:=by
 obtain ⟨a,cap,e,h1,h2,h3⟩:=h.shape
 refine ⟨⟨a,cap,e,h1,h2,fun h0=>?_⟩,h.by_⟩
 obtain ⟨b,off,e2,hl,hc⟩:=h3 h0
 exact ⟨b,off,e2,Nat.lt_of_lt_of_le hl hb.size,fun i hi j hj=>by rw [cell_below hb hl]; exact hc i hi j hj⟩
theorem loF_lt {h:Nat} {key q:Nat->Nat->Nat} {n:Nat} {p:Nat->Nat} (hq:∀ i,i < h->By (q i)) (hn:n<=48) (hp:∀ j,j < n->p j < 256):∀ m,m<=h->m<=8->∀ j,j < loN n m->loF h key q n p m j < 256
 | 0,_,_,j,hj=>hp j hj
 | m+1,hm,h8,j,_=>by
  have hl:=loN_le (n:=n) (m:=m) hn (by omega)
  exact wrF_lt (hq _ (by omega)) (by omega) (fun j hj=>loF_lt hq hn hp m (by omega) (by omega) j hj) j
section
variable {o:Oper} {a:Act} {w:World}
theorem execIdxL {x i:Operand} {b off n cap k:Nat} (ho:o.op=.indexAddr 22 x i) (hx:a.eval x=.slice (some ⟨b,off,none⟩) n cap) (hi:a.eval i=.int .i64 (k:Int)) (hk:k < n):(execOp a.eval o).run Tryz.prog w=.ok (.value (.pointer (some ⟨b,off+k,none⟩))) w:=by
 have h1:(k:Int) < n:=by omega
 unfold execOp
 simp only [ho,hx,hi]
 simp [go_sem,h1,Addr.add_mid]
theorem execIdxA {x i:Operand} {b off n cap k:Nat} (ho:o.op=.indexAddr 23 x i) (hx:a.eval x=.slice (some ⟨b,off,none⟩) n cap) (hi:a.eval i=.int .i64 (k:Int)) (hk:k < n):(execOp a.eval o).run Tryz.prog w=.ok (.value (.pointer (some ⟨b,off+k * 16,none⟩))) w:=by
 have h1:(k:Int) < n:=by omega
 unfold execOp
 simp only [ho,hx,hi]
 simp [go_sem,h1,Addr.add_mid]
theorem execLdL {x:Operand} {b f:Nat} {v:Value} (ho:o.op=.load 24 x) (hx:a.eval x=.pointer (some ⟨b,f,none⟩)) (hc:w.cell? ⟨b,f,none⟩=some v):(execOp a.eval o).run Tryz.prog w=.ok (.value v) w:=by
 unfold execOp
 simp only [ho,hx]
 simp [go_sem,hc]
theorem execExtT {x:Operand} {k:Nat} {arr:Array Value} {v:Value} (ho:o.op=.extract x k) (hx:a.eval x=.tuple arr) (hk:arr[k]?=some v):(execOp a.eval o).run Tryz.prog w=.ok (.value v) w:=by
 unfold execOp
 simp only [ho,hx]
 simp [go_sem,hk]
theorem execSubJ {x y:Operand} {p q r:Nat} (ho:o.op=.binOp .sub 3 x y 3) (hx:a.eval x=.int .i64 p) (hy:a.eval y=.int .i64 q) (h:p=q+r) (hp:p < 9223372036854775808):(execOp a.eval o).run Tryz.prog w=.ok (.value (.int .i64 (r:Nat))) w:=by
 have:=execSubI (w:=w) ho hx hy (by omega) hp
 rw [show p - q=r by omega] at this
 exact this
end
theorem ischain_any (v:Value) (h:Nat) (V:World) (hv:∃ a cap,v=.slice a h cap) (hb:h<=140737488351232) :
  Calls Tryz.prog 29 #[v] V fun e w'=>e=.returned (.bool (decide (1<=h/\h<=8)))/\w'=V:=by
 obtain ⟨a,cap,rfl⟩:=hv
 by_cases h1:1<=h
 ·have i1:(h:Int) ≥ 1:=by omega
  by_cases h2:h<=8
  ·have i2:(h:Int)<=8:=by omega
   rw [decide_eq_true (⟨h1,h2⟩:1<=h/\h<=8)]
   clear h1 h2
   go_enter Tryz.func29,Tryz.ntmps29
   go_wp2_with fail
   go_ret
   exact ⟨rfl,rfl⟩
  ·have i2:¬ (h:Int)<=8:=by omega
   rw [decide_eq_false (fun q:1<=h/\h<=8=>h2 q.2)]
   clear h1 h2
   go_enter Tryz.func29,Tryz.ntmps29
   go_wp2_with fail
   go_ret
   exact ⟨rfl,rfl⟩
 ·have i1:¬ (h:Int) ≥ 1:=by omega
  rw [decide_eq_false (fun q:1<=h/\h<=8=>h1 q.1)]
  clear h1
  go_enter Tryz.func29,Tryz.ntmps29
  go_wp2_with fail
  go_ret
  exact ⟨rfl,rfl⟩
set_option maxRecDepth 20000 in
set_option maxHeartbeats 1000000 in
theorem arekeys_any (v:Value) (h:Nat) (xv:Nat->Value) (lk:Nat->Nat) (key:Nat->Nat->Nat) (V:World) (hc:Cells V v h xv lk key) (hb:h<=140737488351232) :
  Calls Tryz.prog 30 #[v] V fun e w'=>e=.returned (.bool (ksOk h lk))/\w'=V:=by
 obtain ⟨ca,ccap,rfl,_,_,hs⟩:=id hc.shape
 have HC:Hid (Cells V (.slice ca h ccap) h xv lk key):=hc
 have HS:Hid (0 < h->∃ b off,ca=some ⟨b,off,none⟩/\b < V.heap.size/\∀ i,i < h->V.cell? ⟨b,off+i,none⟩=some (xv i)):=hs
 have lm:(h:Int)<=140737488351232:=by omega
 clear hc hs hb
 go_enter Tryz.func30,Tryz.ntmps30
 go_wp2_with fail
 go_loopw [7] (fun z W=>∃ i:Nat,i<=h/\z=.int .i64 (i:Int)/\(∀ k,k < i->lk k=32)/\W=V) (fun z _=>h - (intOf z).toNat)
 case atStart=>exact ⟨0,Nat.zero_le _,rfl,fun k hk=>by omega,rfl⟩
 case round=>
  obtain ⟨i,hi,rfl,hk,hw⟩:=hrel
  rw [hw]
  clear hw
  by_cases hlt:i < h
  ·have i1:(i:Int) < h:=by omega
   obtain ⟨b,off,rfl,hb,hcell⟩:=HS.out (by omega)
   have c1:V.cell? ⟨b,off+i,none⟩=some (xv i):=hcell i hlt
   obtain ⟨ya,yc,ey,_⟩:=(HC.out.cell i hlt).shape
   have HK:Hid ((∀ k,k < i->lk k=32)/\i < h):=⟨hk,hlt⟩
   by_cases h32:lk i=32
   ·have i2:((lk i:Int) != 32)=false:=by simp; omega
    have H32:Hid (lk i=32):=h32
    rw [ey] at c1
    clear hk hlt hi hb hcell ey h32
    go_wp2_with (first
     | (refine wpList_ex rfl (execIdxL (x:=.tmp 5) (k:=i) rfl rfl rfl HK.out.2) ?_)
     | (refine wpList_ex rfl (execLdL (x:=.tmp 9) rfl rfl c1) ?_))
    go_roundw
    case rel=>exact ⟨i+1,HK.out.2,by go_num,fun k hk=>by
     by_cases e:k=i
     ·rw [e]; exact H32.out
     ·exact HK.out.1 k (by omega),by first | trivial | rfl⟩
    case measure=>have:=HK.out.2; simp [intOf]; omega
   ·have i2:((lk i:Int) != 32)=true:=by simp; omega
    have ek:ksOk h lk=false:=by
     cases q:ksOk h lk with
     | false=>rfl
     | true=>exact absurd ((ksOk_iff _ _).1 q i hlt) h32
    rw [ey] at c1
    have EK:Hid (ksOk h lk=false):=ek
    clear hk hlt hi hb hcell ey h32 ek
    go_wp2_with (first
     | (refine wpList_ex rfl (execIdxL (x:=.tmp 5) (k:=i) rfl rfl rfl HK.out.2) ?_)
     | (refine wpList_ex rfl (execLdL (x:=.tmp 9) rfl rfl c1) ?_))
    go_ret
    exact ⟨by rw [EK.out]; rfl,rfl⟩
  ·have i1:¬ (i:Int) < h:=by omega
   have EK:Hid (ksOk h lk=true):=(ksOk_iff _ _).2 fun k q=>hk k (by omega)
   clear hk hlt hi
   go_wp2_with fail
   go_ret
   exact ⟨by rw [EK.out]; rfl,rfl⟩
end Go.Proofs.YtjckkdjldnobmaaGreatDoor.Rou

namespace Go.Proofs.YtjckkdjldnobmaaGreatDoor.Rou
open Go.RowKit Gf8 Aes By8 Cel Oni
/- The reference's Wrap. Written by tools/mkB7l.py. -/
set_option maxRecDepth 20000 in
set_option maxHeartbeats 4000000 in
theorem refwrap_any (kv nv pv:Value) (h hn n:Nat) (xv:Nat->Value) (lk:Nat->Nat) (key q:Nat->Nat->Nat) (p:Nat->Nat) (V:World) (hc:Cells V kv h xv lk key) (hq:Nons V nv hn q) (hp:SliceZ V pv n p) (hb1:h<=140737488351232) (hb2:hn<=140737488351232) (hb3:n<=140737488351232) :
  Calls Tryz.prog 14 #[kv,nv,pv] V fun e w'=>∃ r,e=.returned (.tuple #[r,.int .i64 (rwE h hn lk n:Nat)])/\w'.ownsRow V.heap.size 5 1 r (rwN h hn lk n) (bytesL (rwN h hn lk n) (rwF h key q n p))/\Below V.heap.size V w':=by
 obtain ⟨ca,kc,rfl,_,_,hs⟩:=id hc.shape
 obtain ⟨na,nc,rfl,_,_,ht⟩:=id hq.shape
 obtain ⟨pa,pc,rfl⟩:=id hp.shape
 have l1:(h:Int)<=140737488351232:=by omega
 have l2:(hn:Int)<=140737488351232:=by omega
 have l3:(n:Int)<=140737488351232:=by omega
 by_cases h1:h < 1
 ·have E:rwE h hn lk n=80:=if_pos (by omega)
  have E2:rwN h hn lk n=0:=by unfold rwN; rw [E]; rfl
  rw [E,E2]
  have i1:(h:Int) < 1:=by omega
  clear E E2 hc hq hp hb1 hb2 hb3 hs ht h1
  go_enter Tryz.func14,Tryz.ntmps14
  go_wp2_with fail
  refine bodyPost_ret (results_tmp2 rfl _ _ _) rfl ⟨_,rfl,World.ownsRow_nil _ _ _ _,Below.refl _ _⟩
 ·have i1:¬ (h:Int) < 1:=by omega
  by_cases h8:8 < h
  ·have E:rwE h hn lk n=80:=if_pos (by omega)
   have E2:rwN h hn lk n=0:=by unfold rwN; rw [E]; rfl
   rw [E,E2]
   have i2:(h:Int) > 8:=by omega
   clear E E2 hc hq hp hb1 hb2 hb3 hs ht h1 h8
   go_enter Tryz.func14,Tryz.ntmps14
   go_wp2_with fail
   refine bodyPost_ret (results_tmp2 rfl _ _ _) rfl ⟨_,rfl,World.ownsRow_nil _ _ _ _,Below.refl _ _⟩
  ·have i2:¬ (h:Int) > 8:=by omega
   by_cases hne:hn=h
   ·obtain rfl:h=hn:=hne.symm
    have i3:((h:Int) != (h:Int))=false:=by simp
    obtain ⟨kb,ko,rfl,hs1,hs2⟩:=hs (by omega)
    obtain ⟨nb,no,rfl,ht1,ht2⟩:=ht (by omega)
    have KK:Hid (kb < V.heap.size/\∀ i,i < h->V.cell? ⟨kb,ko+i,none⟩=some (xv i)):=⟨hs1,hs2⟩
    have NN:Hid (nb < V.heap.size/\∀ i,i < h->∀ j,j < 16->V.cell? ⟨nb,no+i * 16+j,none⟩=some (.int .u8 (q i j))):=⟨ht1,ht2⟩
    have HC:Hid (Cells V (.slice (some ⟨kb,ko,none⟩) h kc) h xv lk key/\Nons V (.slice (some ⟨nb,no,none⟩) h nc) h q/\SliceZ V (.slice pa n pc) n p/\1<=h/\h<=8):=⟨hc,hq,hp,by omega,by omega⟩
    have i9:(h:Int)<=8:=by omega
    clear hc hq hp hb1 hb2 hb3 hs hs1 hs2 ht ht1 ht2 h1 h8
    go_enter Tryz.func14,Tryz.ntmps14
    go_wp2_with fail
    go_loopw [9] (fun z W=>∃ i:Nat,i<=h/\z=.int .i64 (i:Int)/\(∀ k,k < i->lk k=32)/\W=V) (fun z _=>h - (intOf z).toNat)
    case atStart=>exact ⟨0,Nat.zero_le _,rfl,fun k hk=>by omega,rfl⟩
    case round=>
     obtain ⟨i,hi,rfl,hk,hw⟩:=hrel
     rw [hw]
     clear hw
     by_cases hlt:i < h
     ·have j1:(i:Int) < h:=by omega
      have c1:V.cell? ⟨kb,ko+i,none⟩=some (xv i):=KK.out.2 i hlt
      obtain ⟨ya,yc,ey,_⟩:=(HC.out.1.cell i hlt).shape
      have HK:Hid ((∀ k,k < i->lk k=32)/\i < h):=⟨hk,hlt⟩
      by_cases h32:lk i=32
      ·have i4:((lk i:Int) != 32)=false:=by simp; omega
       have H32:Hid (lk i=32):=h32
       rw [ey] at c1
       clear hk hlt hi ey h32
       go_wp2_with (first
        | (refine wpList_ex rfl (execIdxL (x:=.tmp 33) (k:=i) rfl rfl rfl HK.out.2) ?_)
        | (refine wpList_ex rfl (execLdL (x:=.tmp 35) rfl rfl c1) ?_))
       go_roundw
       case rel=>exact ⟨i+1,HK.out.2,by go_num,fun k hk=>by
        by_cases e:k=i
        ·rw [e]; exact H32.out
        ·exact HK.out.1 k (by omega),by first | trivial | rfl⟩
       case measure=>have:=HK.out.2; simp [intOf]; omega
      ·have i4:((lk i:Int) != 32)=true:=by simp; omega
       have ek:ksOk h lk=false:=by
        cases q:ksOk h lk with
        | false=>rfl
        | true=>exact absurd ((ksOk_iff _ _).1 q i hlt) h32
       have EE:Hid (rwE h h lk n=2/\rwN h h lk n=0):=by
        have E:rwE h h lk n=2:=by unfold rwE; rw [if_neg (by have:=HC.out; omega),if_neg (by rw [ek]; simp)]
        exact ⟨E,by unfold rwN; rw [E]; rfl⟩
       rw [ey] at c1
       clear hk hlt hi ey h32 ek
       go_wp2_with (first
        | (refine wpList_ex rfl (execIdxL (x:=.tmp 33) (k:=i) rfl rfl rfl HK.out.2) ?_)
        | (refine wpList_ex rfl (execLdL (x:=.tmp 35) rfl rfl c1) ?_))
       refine bodyPost_ret (results_tmp2 rfl _ _ _) rfl ⟨_,by rw [EE.out.1]; rfl,by rw [EE.out.2]; exact World.ownsRow_nil _ _ _ _,Below.refl _ _⟩
     ·have j1:¬ (i:Int) < h:=by omega
      have hko:ksOk h lk=true:=(ksOk_iff _ _).2 fun k q=>hk k (by omega)
      have HK:Hid (∀ k,k < h->lk k=32):=(ksOk_iff _ _).1 hko
      clear hk hlt hi
      by_cases hlong:48 < n
      ·have EE:Hid (rwE h h lk n=1/\rwN h h lk n=0):=by
        have E:rwE h h lk n=1:=by unfold rwE; rw [if_neg (by have:=HC.out; omega),if_pos hko,if_pos hlong]
        exact ⟨E,by unfold rwN; rw [E]; rfl⟩
       have i4:(n:Int) > 48:=by omega
       clear hko hlong
       go_wp2_with fail
       refine bodyPost_ret (results_tmp2 rfl _ _ _) rfl ⟨_,by rw [EE.out.1]; rfl,by rw [EE.out.2]; exact World.ownsRow_nil _ _ _ _,Below.refl _ _⟩
      ·have EE:Hid (rwE h h lk n=0/\rwN h h lk n=320):=by
        have E:rwE h h lk n=0:=by unfold rwE; rw [if_neg (by have:=HC.out; omega),if_pos hko,if_neg hlong]
        exact ⟨E,by unfold rwN; rw [E]; rfl⟩
       have i4:¬ (n:Int) > 48:=by omega
       have HH:Hid (1<=h/\h<=8/\n<=48):=⟨HC.out.2.2.2.1,HC.out.2.2.2.2,by omega⟩
       have LT:Hid (∀ m,m<=h->∀ j,j < loN n m->loF h key q n p m j < 256):=fun m hm=>loF_lt HC.out.2.1.by_ (by omega) HC.out.2.2.1.sl.bytes m hm (by have:=HC.out; omega)
       have WR:Hid (∀ m,m < h->∀ (W:World) (ov:Value),Below V.heap.size V W->SliceZ W ov (loN n m) (loF h key q n p m)->Calls Tryz.prog 26 #[xv (h - (m+1)),.agg (bA 16 (q (h - (m+1)))),.int .i64 ((m+1:Nat):Int),ov] W fun e w'=>∃ r,e=.returned (.tuple #[r,.int .i64 0])/\w'.ownsRow W.heap.size 5 1 r (loN n (m+1)) (bytesL (loN n (m+1)) (loF h key q n p (m+1)))/\Below W.heap.size W w'):=fun m hm W ov hW hov=>by
        have h8:=HH.out
        have hl:=loN_le (n:=n) (m:=m) (by omega) (by omega)
        have e:=rwrap_any (key (h - (m+1))) (q (h - (m+1))) (loF h key q n p m) 32 (loN n m) ((m+1:Nat):Int) (xv (h - (m+1))) ov W (by have:=HC.out.1.cell (h - (m+1)) (by omega); rw [HK.out _ (by omega)] at this; exact this.on hW) (HC.out.2.1.by_ _ (by omega)) hov.sl (by omega)
        obtain ⟨e1,e2⟩:=lay_e (n:=n) (m:=m) (by omega) (by omega)
        rw [e1,e2] at e
        exact e
       have PD:Hid (∀ W v,SliceZ W v (loN n h) (loF h key q n p h)->Calls Tryz.prog 27 #[v] W fun e w'=>∃ r,e=.returned (.tuple #[r,.int .i64 0])/\w'.ownsRow W.heap.size 5 1 r 320 (bytesL 320 (rwF h key q n p))/\Below W.heap.size W w'):=fun W v hv=>by
        have hl:=loN_le (n:=n) (m:=h) (by omega) HH.out.2.1
        have:=rpad_any (loF h key q n p h) (loN n h) v W hv (by omega)
        rw [show okE 320 (loN n h)=0 from if_pos hl,show okN 320 (loN n h)=320 from if_pos hl] at this
        exact this
       clear hko hlong
       go_wp2_with fail
       go_loopw [10,11] (fun u x W=>∃ m:Nat,m<=h/\x=.int .i64 ((h:Int) - 1 - m)/\SliceZ W u (loN n m) (loF h key q n p m)/\Below V.heap.size V W) (fun _ x _=>(intOf x+1).toNat)
       case atStart=>exact ⟨0,Nat.zero_le _,by go_num,HC.out.2.2.1,Below.refl _ _⟩
       case round=>
        obtain ⟨m,hm,rfl,so,bel⟩:=hrel
        obtain ⟨oa,oc,rfl⟩:=id so.shape
        have SO:Hid (SliceZ wr (.slice oa (loN n m) oc) (loN n m) (loF h key q n p m)):=so
        have HB:Hid (Below V.heap.size V wr):=bel
        by_cases hlt:m < h
        ·obtain ⟨i,hi⟩:∃ i,h - (m+1)=i:=⟨_,rfl⟩
         have e1:(h:Int) - 1 - m=i:=by omega
         rw [e1]
         have i5:(i:Int) ≥ 0:=by omega
         have i6:(i:Int)<=8:=by omega
         have CW:Hid (∀ W,Below V.heap.size V W->SliceZ W (.slice oa (loN n m) oc) (loN n m) (loF h key q n p m)->Calls Tryz.prog 26 #[xv i,.agg (bA 16 (q i)),.int .i64 ((m+1:Nat):Int),.slice oa (loN n m) oc] W fun e w'=>∃ r,e=.returned (.tuple #[r,.int .i64 0])/\w'.ownsRow W.heap.size 5 1 r (loN n (m+1)) (bytesL (loN n (m+1)) (loF h key q n p (m+1)))/\Below W.heap.size W w'):=fun W hW ho=>by
          have:=WR.out m hlt W _ hW ho
          rw [hi] at this
          exact this
         have HK:Hid (m < h/\h=i+(m+1)/\i < h/\(i:Int)=(h:Int) - 1 - m):=⟨hlt,by omega,by omega,by omega⟩
         clear so bel hm hlt hi e1
         go_wp2_with fail
         refine wp_region_st 73 [(0,50),(1,51),(2,52),(3,53),(4,54),(5,55),(6,56),(7,57),(8,58),(9,59),(10,60),(11,61),(12,62),(13,49),(14,63),(15,64),(16,12),(17,13)] (fun l r X=>Below wr.heap.size wr X/\(l 12=true->X.ownsRow V.heap.size 5 1 r (loN n (m+1)) (bytesL (loN n (m+1)) (loF h key q n p (m+1))))) (fun r=>fun i_=>match i_ with | 0=>.slice (some ⟨kb,ko,none⟩) h kc | 1=>.int .i64 (i:Int) | 2=>.pointer (some ⟨kb,ko+i,none⟩) | 3=>xv i | 4=>.slice (some ⟨nb,no,none⟩) h nc | 5=>.int .i64 (i:Int) | 6=>.pointer (some ⟨nb,no+i * 16,none⟩) | 7=>.agg (bA 16 (q i)) | 8=>.int .i64 (h:Int) | 9=>.int .i64 (i:Int) | 10=>.int .i64 ((m+1:Nat):Int) | 11=>.slice oa (loN n m) oc | 12=>.tuple #[r,.int .i64 0] | 13=>.tuple #[r,.int .i64 0] | 14=>r | 15=>.int .i64 0 | 16=>r | 17=>.int .i64 0 | _=>undef) undef (by kernel_rfl) (by kernel_rfl) rfl (by kernel_rfl) (by decide) (by decide) ?_ ?_ ?_
         ·exact ⟨(Below.refl _ _).drew,fun q=>by cases q⟩
         ·intro j hj l r a X hl hf hdep hl2 hcl hS
          match j,hj with
          | 0,_=>exact stepV rfl rfl (execMvB rfl (hf 0 (by decide))) ⟨r,⟨_,rfl,rfl⟩,⟨hS.1,fun q=>hS.2 q⟩,fun _ _ _=>rfl⟩
          | 1,_=>exact stepV rfl rfl (execMvB rfl (hf 11 (by decide))) ⟨r,⟨_,rfl,rfl⟩,⟨hS.1,fun q=>hS.2 q⟩,fun _ _ _=>rfl⟩
          | 2,_=>exact stepV rfl rfl (execIdxL rfl (hdep _ rfl 0 rfl _ rfl _ rfl) (hdep _ rfl 1 rfl _ rfl _ rfl) (by have:=HK.out; omega)) ⟨r,⟨_,rfl,rfl⟩,⟨hS.1,fun q=>hS.2 q⟩,fun _ _ _=>rfl⟩
          | 3,_=>exact stepV rfl rfl (execLdL rfl (hdep _ rfl 2 rfl _ rfl _ rfl) (by rw [cell_below (HB.out.trans (hS.1.mono HB.out.size)) KK.out.1]; exact KK.out.2 i (by have:=HK.out; omega))) ⟨r,⟨_,rfl,rfl⟩,⟨hS.1,fun q=>hS.2 q⟩,fun _ _ _=>rfl⟩
          | 4,_=>exact stepV rfl rfl (execMvB rfl (hf 1 (by decide))) ⟨r,⟨_,rfl,rfl⟩,⟨hS.1,fun q=>hS.2 q⟩,fun _ _ _=>rfl⟩
          | 5,_=>exact stepV rfl rfl (execMvB rfl (hf 11 (by decide))) ⟨r,⟨_,rfl,rfl⟩,⟨hS.1,fun q=>hS.2 q⟩,fun _ _ _=>rfl⟩
          | 6,_=>exact stepV rfl rfl (execIdxA rfl (hdep _ rfl 4 rfl _ rfl _ rfl) (hdep _ rfl 5 rfl _ rfl _ rfl) (by have:=HK.out; omega)) ⟨r,⟨_,rfl,rfl⟩,⟨hS.1,fun q=>hS.2 q⟩,fun _ _ _=>rfl⟩
          | 7,_=>exact stepV rfl rfl (execLdList (k:=16) (q:=q i) rfl (hdep _ rfl 6 rfl _ rfl _ rfl) (fun j hj=>by rw [cell_below (HB.out.trans (hS.1.mono HB.out.size)) NN.out.1]; exact NN.out.2 i (by have:=HK.out; omega) j hj) Tryz.underlying34 rfl (by kernel_rfl)) ⟨r,⟨_,rfl,rfl⟩,⟨hS.1,fun q=>hS.2 q⟩,fun _ _ _=>rfl⟩
          | 8,_=>exact stepV rfl rfl (execMvB rfl (hf 8 (by decide))) ⟨r,⟨_,rfl,rfl⟩,⟨hS.1,fun q=>hS.2 q⟩,fun _ _ _=>rfl⟩
          | 9,_=>exact stepV rfl rfl (execMvB rfl (hf 11 (by decide))) ⟨r,⟨_,rfl,rfl⟩,⟨hS.1,fun q=>hS.2 q⟩,fun _ _ _=>rfl⟩
          | 10,_=>exact stepV rfl rfl (execSubJ (p:=h) (q:=i) (r:=m+1) rfl (hdep _ rfl 8 rfl _ rfl _ rfl) (hdep _ rfl 9 rfl _ rfl _ rfl) (by have:=HK.out; omega) (by have:=HH.out; omega)) ⟨r,⟨_,rfl,rfl⟩,⟨hS.1,fun q=>hS.2 q⟩,fun _ _ _=>rfl⟩
          | 11,_=>exact stepV rfl rfl (execMvB rfl (hf 10 (by decide))) ⟨r,⟨_,rfl,rfl⟩,⟨hS.1,fun q=>hS.2 q⟩,fun _ _ _=>rfl⟩
          | 12,_=>
           refine stepC rfl rfl (execCall4 Tryz.func26 (by kernel_rfl) (by kernel_rfl) rfl (hdep _ rfl 3 rfl _ rfl _ rfl) (hdep _ rfl 7 rfl _ rfl _ rfl) (hdep _ rfl 10 rfl _ rfl _ rfl) (hdep _ rfl 11 rfl _ rfl _ rfl)) (CW.out X (HB.out.trans (hS.1.mono HB.out.size)) (SO.out.on hS.1)) fun e w' hh=>?_
           obtain ⟨r',e1,own',bw⟩:=hh
           refine ⟨_,e1,r',⟨_,rfl,rfl⟩,⟨hS.1.trans (bw.mono hS.1.size),fun _=>own_base own' (Nat.le_trans HB.out.size hS.1.size)⟩,fun i hi hli=>?_⟩
           match i,hi with
           | 0,_ | 1,_ | 2,_ | 3,_ | 4,_ | 5,_ | 6,_ | 7,_ | 8,_ | 9,_ | 10,_ | 11,_ | 15,_ | 17,_=>rfl
           | 12,_=>exact absurd (hl.symm.trans hli) (by decide)
           | 13,_=>exact absurd (hl.symm.trans (hcl 13 _ rfl hli 12 rfl)) (by decide)
           | 14,_=>exact absurd (hl.symm.trans (hcl 13 _ rfl (hcl 14 _ rfl hli 13 rfl) 12 rfl)) (by decide)
           | 16,_=>exact absurd (hl.symm.trans (hcl 13 _ rfl (hcl 14 _ rfl (hcl 16 _ rfl hli 14 rfl) 13 rfl) 12 rfl)) (by decide)
           | k+18,h=>exact absurd h (by simp)
          | 13,_=>exact stepV rfl rfl (execMvB rfl (hdep _ rfl 12 rfl _ rfl _ rfl)) ⟨r,⟨_,rfl,rfl⟩,⟨hS.1,fun q=>hS.2 q⟩,fun _ _ _=>rfl⟩
          | 14,_=>exact stepV rfl rfl (execExtT rfl (hdep _ rfl 13 rfl _ rfl _ rfl) rfl) ⟨r,⟨_,rfl,rfl⟩,⟨hS.1,fun q=>hS.2 q⟩,fun _ _ _=>rfl⟩
          | 15,_=>exact stepV rfl rfl (execExtT rfl (hdep _ rfl 13 rfl _ rfl _ rfl) rfl) ⟨r,⟨_,rfl,rfl⟩,⟨hS.1,fun q=>hS.2 q⟩,fun _ _ _=>rfl⟩
          | 16,_=>exact stepV rfl rfl (execAsgB rfl (hdep _ rfl 14 rfl _ rfl _ rfl)) ⟨r,⟨_,rfl,rfl⟩,⟨hS.1,fun q=>hS.2 q⟩,fun _ _ _=>rfl⟩
          | 17,_=>exact stepV rfl rfl (execAsgB rfl (hdep _ rfl 15 rfl _ rfl _ rfl)) ⟨r,⟨_,rfl,rfl⟩,⟨hS.1,fun q=>hS.2 q⟩,fun _ _ _=>rfl⟩
          | k+18,h=>exact absurd h (by simp)
         ·intro l r X hall hS
          obtain ⟨hb2,ho2⟩:=hS
          have O2:Hid (X.ownsRow V.heap.size 5 1 r (loN n (m+1)) (bytesL (loN n (m+1)) (loF h key q n p (m+1)))/\Below V.heap.size V X):=⟨ho2 (hall 12 (by simp)),HB.out.trans (hb2.mono HB.out.size)⟩
          clear hall hb2 ho2
          simp only [putP,Act.put,List.setIfInBounds_toArray,List.set_cons_succ,List.set_cons_zero]
          go_wp2_with fail
          go_roundw
          case rel=>exact ⟨m+1,HK.out.1,by have:=HK.out; go_num,own_sliceZ O2.out.1 (LT.out (m+1) HK.out.1),O2.out.2⟩
          case measure=>have:=HK.out; simp [intOf] <;> omega
        ·obtain rfl:m=h:=by omega
         have i5:¬ ((m:Int) - 1 - m) ≥ 0:=by omega
         clear so bel hm hlt
         go_wp2_with (go_at_call 27; refine (PD.out wr _ SO.out).mono ?_; rintro e w4 ⟨r4,rfl,own4,hb4⟩; have S4:Hid (w4.ownsRow V.heap.size 5 1 r4 320 (bytesL 320 (rwF m key q n p))/\Below V.heap.size V w4):=⟨own_base own4 HB.out.size,HB.out.trans (hb4.mono HB.out.size)⟩; clear own4 hb4)
         refine bodyPost_ret (results_tmp2 rfl _ _ _) rfl ⟨_,by rw [EE.out.1]; rfl,by rw [EE.out.2]; exact S4.out.1,S4.out.2⟩
   ·have i3:((hn:Int) != (h:Int))=true:=by simp; omega
    have E:rwE h hn lk n=80:=if_pos (by omega)
    have E2:rwN h hn lk n=0:=by unfold rwN; rw [E]; rfl
    rw [E,E2]
    clear E E2 hc hq hp hb1 hb2 hb3 hs ht h1 h8
    go_enter Tryz.func14,Tryz.ntmps14
    go_wp2_with fail
    refine bodyPost_ret (results_tmp2 rfl _ _ _) rfl ⟨_,rfl,World.ownsRow_nil _ _ _ _,Below.refl _ _⟩
end Go.Proofs.YtjckkdjldnobmaaGreatDoor.Rou
