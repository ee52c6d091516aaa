import Derived.Test.YtjckkdjldnobmaaGreatDoorX7b
namespace Go.Proofs.YtjckkdjldnobmaaGreatDoor.Cel
open Go.RowKit Gf8 Aes By8
/- append(s, make([]byte, m)...): one operation of the model. -/
section
variable {P:Program} (w:World)
theorem runMk_room (t u ty e:TypeId) (i:TypeInfo) (z:Value) (ht:P.underlying t=some (.slice e)) (hu:P.underlying u=some (.int .i64)) (hi:P.info? e=some i) (hz:i.zero=some z) (hsize:i.size=1) (hby:i.bytes=1)
  (g sLen sCap:Nat) (cur:Array Value) (hg:w.heap[g]?=some (.cells cur e (0,0))) (m:Nat) (h0:0 < m) (hm:m<=1000000) (news:List Value) (hn:(Builtin.zeroCells z.cells m).toList=news) (h1:∀ u ∈ news,u.oneCell'=true)
  (hroom:sLen+m<=sCap) (hfit:sLen+news.length<=cur.size) :
  (Builtin.append_ #[t,u] ty #[.slice (some ⟨g,0,none⟩) sLen sCap,.int .i64 (m:Int)]).run P w =
   .ok (.slice (some ⟨g,0,none⟩) (sLen+m) sCap) (w.setRow g (cur.toList.take sLen ++ news ++ cur.toList.drop (sLen+news.length)).toArray):=by
 have hst:=run_storeCells_at P g sLen e news 0 cur w hg (by simpa using hfit) h1
 simp only [Nat.add_zero] at hst
 have e1:IntKind.i64.wrap (m:Int)=m:=wrap_i64_nat (by omega)
 have e2:¬ ((m:Int) < 0):=by omega
 have e3:¬ (281474976710656 < (m:Int)):=by omega
 have e4:m ≠ 0:=by omega
 subst hn
 simp [Builtin.append_,run_underlying ht,run_underlying hu,sizeOf,typeInfo,zeroValue,hi,hz,hsize,hby,asInt,asIntOf,e1,e2,e3,e4,hroom,Addr.add_lit,hst]
theorem runMk_grow (t u ty e:TypeId) (i:TypeInfo) (z:Value) (ht:P.underlying t=some (.slice e)) (hu:P.underlying u=some (.int .i64)) (hi:P.info? e=some i) (hz:i.zero=some z) (hsize:i.size=1) (hby:i.bytes=1)
  (b:Addr) (sLen sCap:Nat) (olds:List Value) (hlo:olds.length=sLen * i.size) (holds:∀ j v,olds[j]?=some v->w.cell? (b.add j)=some v) (m:Nat) (h0:0 < m) (hm:m<=1000000)
  (hg:sCap < sLen+m) (h63:((sLen+m:Nat):Int)<=9223372036854775807) (hfit:Builtin.nextslicecap (sLen+m) sCap * i.bytes<=281474976710656) :
  (Builtin.append_ #[t,u] ty #[.slice (some b) sLen sCap,.int .i64 (m:Int)]).run P w =
   .ok (.slice (some ⟨w.heap.size,0,none⟩) (sLen+m) (grownCap w (sLen+m) sCap e))
    (w.drew.alloc (.cells (olds.toArray ++ Builtin.zeroCells z.cells m ++ Builtin.zeroCells z.cells (grownCap w (sLen+m) sCap e - (sLen+m))) e)):=by
 have e1:IntKind.i64.wrap (m:Int)=m:=wrap_i64_nat (by omega)
 have e2:¬ ((m:Int) < 0):=by omega
 have e3:¬ (281474976710656 < (m:Int)):=by omega
 have e4:m ≠ 0:=by omega
 have e6:max (m:Int) 0=m:=by omega
 have hn:¬ (sLen+m<=sCap):=by omega
 have h63':¬ (9223372036854775807 < ((sLen:Int)+(m:Int))):=by omega
 have h48':¬ (281474976710656 < Builtin.nextslicecap (sLen+m) sCap * i.bytes):=by omega
 rw [hby,Nat.mul_one] at h48'
 have hfo:=run_firstCells_some (P:=P) w.drew i.size sLen b sLen sCap olds hlo (by simpa using holds)
 rw [hsize] at hfo
 simp [Builtin.append_,run_underlying ht,run_underlying hu,sizeOf,typeInfo,zeroValue,hi,hz,hsize,hby,asInt,asIntOf,e1,e2,e3,e4,e6,hn,h63',h48',Question.forced,hfo,newRow,grownCap]
end
theorem zeros_bytes (m:Nat):(Builtin.zeroCells (Value.int .u8 0).cells m).toList=bytesL m (fun _=>0):=by
 apply List.ext_getElem?
 intro j
 by_cases h:j < m
 ·rw [bytesL_at m _ h]
  simp [Builtin.zeroCells,Value.cells,h,Nat.mod_one]
 ·have l1:(Builtin.zeroCells (Value.int .u8 0).cells m).toList.length=m:=by rw [Array.length_toList,size_zeroCells]; simp [Value.cells]
  have l2:(bytesL m fun _=>0).length=m:=bytesL_len _ _
  rw [List.getElem?_eq_none (by omega),List.getElem?_eq_none (by omega)]
end Go.Proofs.YtjckkdjldnobmaaGreatDoor.Cel
