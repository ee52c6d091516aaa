import Derived.Test.YtjjegmflllpknaaRows
namespace Go.Proofs.Ytjjegmflllpknaa.Win
/- Lists in order, each number once; tags as numbers. Names nothing of a program. -/
def Inc (l:List Nat):Prop:=l.Pairwise (· < ·)
theorem Inc.nil:Inc []:=List.Pairwise.nil
def ins (x:Nat):List Nat->List Nat
 | []=>[x]
 | y :: l=>if x < y then x :: y :: l else if x=y then y :: l else y :: ins x l
def srt:List Nat->List Nat
 | []=>[]
 | x :: l=>ins x (srt l)
def tv (b:Nat->Nat):Nat->Nat
 | 0=>0
 | k+1=>tv b k * 256+b k
end Go.Proofs.Ytjjegmflllpknaa.Win

namespace Go.Proofs.Ytjjegmflllpknaa.Win
/- Windows as plain data: what Check, Open and Add answer; right stays right, in pieces. Names nothing of a program. -/
abbrev Ep:=Int × List Nat
abbrev Wn:=Int × List Ep
abbrev opA (ep s:Int):Prop:=1<=s/\s<=8/\0<=ep/\ep<=4611686018427387904
abbrev opB (w:Wn) (ep s:Int):Prop:=ep+s<=w.1\/w.1 < ep - 1024
def putE:List Ep->Int->List Nat->List Ep
 | [],e,f=>[(e,f)]
 | x :: r,e,f=>if e < x.1 then (e,f) :: x :: r else if x.1=e then (x.1,srt (x.2 ++ f)) :: r else x :: putE r e f
def putW (es:List Ep) (e:Int) (f:List Nat):List Ep:=if f=[] then es else putE es e f
end Go.Proofs.Ytjjegmflllpknaa.Win
