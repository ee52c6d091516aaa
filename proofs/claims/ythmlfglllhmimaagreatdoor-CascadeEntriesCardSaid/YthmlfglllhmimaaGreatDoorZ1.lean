import Derived.Test.YthmlfglllhmimaaGreatDoorY3
import Derived.Test.YthmlfglllhmimaaGreatDoorJ0
import Derived.Shelf.Abstract
import Derived.Test.YthmlfglllhmimaaGreatDoorI3
import Derived.Deep.MidRow
import Derived.Laws.CopyRow
import Derived.Test.YthmlfglllhmimaaGreatDoorK7
namespace Go.Proofs.YthmlfglllhmimaaGreatDoor.Aes
open Go.RowKit Gf8
/- The program's block: a function that is handed in; substituted; turned. -/

/-- A function of bytes as a value: function g with what it has captured, called in any world that keeps what lay in V. -/
structure FnB (g : Nat) (lb : Array Value) (f : Nat → Nat) (V : World) : Prop where
  enters : Enters Tryz.prog g
  gives : ∀ (a : Nat) (W : World), a < 256 → Below V.heap.size V W → Calls Tryz.prog g (#[.int .u8 a] ++ lb) W fun e w' => e = .returned (.int .u8 (f a : Nat)) ∧ Below W.heap.size W w'
  lt : ∀ a, a < 256 → f a < 256
theorem FnB.on {g : Nat} {lb : Array Value} {f : Nat → Nat} {V W : World} (h : FnB g lb f V) (hb : Below V.heap.size V W) : FnB g lb f W :=
  ⟨h.enters, fun a U ha hU => h.gives a U ha (hb.trans (hU.mono hb.size)), h.lt⟩
/-- The rows of substituted. -/
structure SuT (A k : Nat) (f b : Nat → Nat) (V W : World) : Prop where
  b : W.heap[A]? = some (.cells (bA 16 (mixU (fun j => f (b j)) b k)) 128)
  r : W.heap[A + 1]? = some (.cells (bA 16 fun _ => 0) 128)
  bel : Below A V W
theorem SuT.lt {A k : Nat} {f b : Nat → Nat} {V W : World} (h : SuT A k f b V W) : A + 1 < W.heap.size := (Array.getElem?_eq_some_iff.1 h.r).1
theorem SuT.on {A k : Nat} {f b : Nat → Nat} {V W W' : World} (h : SuT A k f b V W) (hb : Below W.heap.size W W') : SuT A k f b V W' := by
  have l := h.lt
  exact ⟨by rw [hb.block _ (by omega)]; exact h.b, by rw [hb.block _ (by omega)]; exact h.r, h.bel.trans (hb.mono (by omega))⟩
end Go.Proofs.YthmlfglllhmimaaGreatDoor.Aes

namespace Go.Proofs.YthmlfglllhmimaaGreatDoor.Aes
open Go.RowKit Gf8
/- The program's block: copy; mixed. -/

section
variable {P : Program} {ops : Array Oper} {rest : List Oper} {o : Oper} {a : Act} {w w' : World} {Q : Exit → Act → World → Prop}
end
/-- The rows of mixed. -/
structure MiT (A n : Nat) (f b : Nat → Nat) (V W : World) : Prop where
  s : W.heap[A]? = some (.cells (bA 16 (mixU (mixB f b) b n)) 128)
  r : W.heap[A + 1]? = some (.cells (bA 16 fun _ => 0) 128)
  bel : Below A V W
theorem MiT.lt {A n : Nat} {f b : Nat → Nat} {V W : World} (h : MiT A n f b V W) : A + 1 < W.heap.size := (Array.getElem?_eq_some_iff.1 h.r).1
theorem MiT.on {A n : Nat} {f b : Nat → Nat} {V W W' : World} (h : MiT A n f b V W) (hb : Below W.heap.size W W') : MiT A n f b V W' := by
  have l := h.lt
  exact ⟨by rw [hb.block _ (by omega)]; exact h.s, by rw [hb.block _ (by omega)]; exact h.r, h.bel.trans (hb.mono (by omega))⟩
end Go.Proofs.YthmlfglllhmimaaGreatDoor.Aes

namespace Go.Proofs.YthmlfglllhmimaaGreatDoor.Aes
open Go.RowKit Gf8
/- The program's block: nextKey. -/

/-- The word that is carried on, behind i words of the next round key. -/
def wd (f : Nat → Nat) (c : Nat) (key : Nat → Nat) : Nat → (Nat → Nat)
  | 0 => fun r => if r = 0 then f (key 13) ^^^ c else f (key (12 + (r + 1) % 4))
  | i + 1 => fun r => wd f c key i r ^^^ key (4 * i + r)
/-- The next round key. -/
def nk (f : Nat → Nat) (c : Nat) (key : Nat → Nat) : Nat → Nat := fun j => wd f c key (j / 4 + 1) (j % 4)
section
variable {P : Program} {o : Oper} {a : Act} {w : World}
end
end Go.Proofs.YthmlfglllhmimaaGreatDoor.Aes

namespace Go.Proofs.YthmlfglllhmimaaGreatDoor.Aes
open Go.RowKit Gf8
/- The program's block: sum. -/

/-- Two blocks, byte by byte. -/
def xorB (a b : Nat → Nat) : Nat → Nat := fun j => a j ^^^ b j
/-- What each operation of 'a[i] ^= b[i]' yields. -/
def smV (A k : Nat) (a b : Nat → Nat) (j : Nat) : Value :=
  match j with
  | 0 => .int .i64 k | 1 => .pointer (some ⟨A, k, none⟩) | 2 => .int .u8 (a k) | 3 => .int .i64 k | 4 => .pointer (some ⟨A + 1, k, none⟩)
  | 5 => .int .u8 (b k) | 6 => .int .u8 (xorB a b k : Nat) | 7 => .pointer (some ⟨A, k, none⟩) | _ => undef
end Go.Proofs.YthmlfglllhmimaaGreatDoor.Aes

namespace Go.Proofs.YthmlfglllhmimaaGreatDoor.Aes
open Go.RowKit Gf8
/- The program's block: a Schedule's cells; scheduled. -/

section
variable {P : Program} {ops : Array Oper} {rest : List Oper} {o : Oper} {a : Act} {w w' : World} {Q : Exit → Act → World → Prop}
end
/-- The rows of scheduled. -/
structure SdT (A n : Nat) (key : Nat → Nat) (V W : World) : Prop where
  k : W.heap[A]? = some (.cells (bA 16 key) 128)
  r : W.heap[A + 1]? = some (.cells (bA 176 fun _ => 0) 187)
  s : W.heap[A + 2]? = some (.cells (bA 176 (uptoC (kw key) n)) 187)
  bel : Below A V W
theorem SdT.lt {A n : Nat} {key : Nat → Nat} {V W : World} (h : SdT A n key V W) : A + 2 < W.heap.size := (Array.getElem?_eq_some_iff.1 h.s).1
theorem SdT.on {A n : Nat} {key : Nat → Nat} {V W W' : World} (h : SdT A n key V W) (hb : Below W.heap.size W W') : SdT A n key V W' := by
  have l := h.lt
  exact ⟨by rw [hb.block _ (by omega)]; exact h.k, by rw [hb.block _ (by omega)]; exact h.r, by rw [hb.block _ (by omega)]; exact h.s, h.bel.trans (hb.mono (by omega))⟩
theorem SdT.next {A n : Nat} {key : Nat → Nat} {V W : World} (h : SdT A (16 * n) key V W) : SdT A (16 * (n + 1)) key V (W.setRow (A + 2) (bA 176 (spl (uptoC (kw key) (16 * n)) (16 * n) 16 fun j => kw key (16 * n + j)))) := by
  refine ⟨by rw [setRow_other _ _ _ _ (by omega)]; exact h.k, by rw [setRow_other _ _ _ _ (by omega)]; exact h.r, ?_, below4 h.bel (by omega) _⟩
  rw [setRow_heap _ _ _ _ _ _ h.s]
  congr 3
  funext i
  unfold spl uptoC
  by_cases h1 : 16 * n ≤ i ∧ i < 16 * n + 16
  · rw [if_pos h1, if_pos (by omega)]
    exact congrArg (kw key) (by omega)
  · rw [if_neg h1]
    by_cases h2 : i < 16 * n
    · rw [if_pos h2, if_pos (by omega)]
    · rw [if_neg h2, if_neg (by omega)]
theorem SdT.first {A : Nat} {key : Nat → Nat} {V W : World} (h : SdT A (16 * 0) key V W) : SdT A (16 * (0 + 1)) key V (W.setRow (A + 2) (bA 176 (spl (uptoC (kw key) (16 * 0)) (16 * 0) 16 key))) := by
  rw [bA_congr (g := spl (uptoC (kw key) (16 * 0)) (16 * 0) 16 fun j => kw key (16 * 0 + j)) (fun i _ => by
    unfold spl
    by_cases h1 : 16 * 0 ≤ i ∧ i < 16 * 0 + 16
    · rw [if_pos h1, if_pos h1]
      show key (i - 16 * 0) = kw key (16 * 0 + (i - 16 * 0))
      rw [show 16 * 0 + (i - 16 * 0) = i by omega, kw_low key (by omega)]; rfl
    · rw [if_neg h1, if_neg h1])]
  exact h.next

end Go.Proofs.YthmlfglllhmimaaGreatDoor.Aes

namespace Go.Proofs.YthmlfglllhmimaaGreatDoor.Aes
open Go.RowKit Gf8
/- The program's block: encrypted, Encrypt, Decrypt. -/

/-- The rows of encrypted: the Schedule, the block, the answer's place. -/
structure EnT (A : Nat) (w st : Nat → Nat) (V W : World) : Prop where
  ww : W.heap[A]? = some (.cells (bA 176 w) 187)
  bb : W.heap[A + 1]? = some (.cells (bA 16 st) 128)
  rr : W.heap[A + 2]? = some (.cells (bA 16 fun _ => 0) 128)
  bel : Below A V W
theorem EnT.lt {A : Nat} {w st : Nat → Nat} {V W : World} (h : EnT A w st V W) : A + 2 < W.heap.size := (Array.getElem?_eq_some_iff.1 h.rr).1
theorem EnT.on {A : Nat} {w st : Nat → Nat} {V W W' : World} (h : EnT A w st V W) (hb : Below W.heap.size W W') : EnT A w st V W' := by
  have l := h.lt
  exact ⟨by rw [hb.block _ (by omega)]; exact h.ww, by rw [hb.block _ (by omega)]; exact h.bb, by rw [hb.block _ (by omega)]; exact h.rr, h.bel.trans (hb.mono (by omega))⟩
theorem EnT.drew {A : Nat} {w st : Nat → Nat} {V W : World} (h : EnT A w st V W) : EnT A w st V W.drew := ⟨h.ww, h.bb, h.rr, h.bel.drew⟩
end Go.Proofs.YthmlfglllhmimaaGreatDoor.Aes

namespace Go.Proofs.YthmlfglllhmimaaGreatDoor.Aes
open Go.RowKit Gf8 By8
/- The program's block: stream. -/

/-- The rows of stream ahead of its loop. -/
structure S0T (A : Nat) (key : Nat → Nat) (s0 : Nat) (V W : World) : Prop where
  k : W.heap[A]? = some (.cells (bA 16 key) 128)
  s : W.heap[A + 1]? = some (.cells (bA 16 (be s0)) 128)
  bel : Below A V W
theorem S0T.on {A : Nat} {key : Nat → Nat} {s0 : Nat} {V W W' : World} (h : S0T A key s0 V W) (hb : Below W.heap.size W W') : S0T A key s0 V W' := by
  have l : A + 1 < W.heap.size := (Array.getElem?_eq_some_iff.1 h.s).1
  exact ⟨by rw [hb.block _ (by omega)]; exact h.k, by rw [hb.block _ (by omega)]; exact h.s, h.bel.trans (hb.mono (by omega))⟩
/-- The rows in stream's loop: the next start, the table, the Schedule, the answer of which off bytes are laid. -/
structure SmR (A T S O n k off : Nat) (w : Nat → Nat) (s0 : Nat) (V W : World) : Prop where
  st : W.heap[A + 1]? = some (.cells (bA 16 (be (s0 + k))) 128)
  tb : W.heap[T]? = some (.cells (bA 256 gsub) 195)
  ss : W.heap[S]? = some (.cells (bA 176 w) 187)
  oo : W.heap[O]? = some (.cells (bA n (uptoC (maskF w s0 fun _ => 0) off)) 5)
  l1 : A + 1 < T
  l2 : T < S
  l3 : S < O
  bel : Below A V W
theorem SmR.lt {A T S O n k off : Nat} {w : Nat → Nat} {s0 : Nat} {V W : World} (h : SmR A T S O n k off w s0 V W) : O < W.heap.size := (Array.getElem?_eq_some_iff.1 h.oo).1
theorem SmR.on {A T S O n k off : Nat} {w : Nat → Nat} {s0 : Nat} {V W W' : World} (h : SmR A T S O n k off w s0 V W) (hb : Below W.heap.size W W') : SmR A T S O n k off w s0 V W' := by
  have l := h.lt
  have a := h.l1
  have b := h.l2
  have c := h.l3
  exact ⟨by rw [hb.block _ (by omega)]; exact h.st, by rw [hb.block _ (by omega)]; exact h.tb, by rw [hb.block _ (by omega)]; exact h.ss, by rw [hb.block _ (by omega)]; exact h.oo, a, b, c, h.bel.trans (hb.mono (by omega))⟩
/-- A row behind all of these is written. -/
theorem SmR.row {A T S O n k off B : Nat} {w : Nat → Nat} {s0 : Nat} {V W : World} (h : SmR A T S O n k off w s0 V W) (hB : O < B) (c : Array Value) : SmR A T S O n k off w s0 V (W.setRow B c) := by
  have l := h.lt
  have a := h.l1
  have b := h.l2
  have d := h.l3
  exact ⟨by rw [setRow_other _ _ _ _ (by omega)]; exact h.st, by rw [setRow_other _ _ _ _ (by omega)]; exact h.tb, by rw [setRow_other _ _ _ _ (by omega)]; exact h.ss, by rw [setRow_other _ _ _ _ (by omega)]; exact h.oo, a, b, d, below4 h.bel (by omega) _⟩
theorem SmR.copy {A T S O n k off c : Nat} {w : Nat → Nat} {s0 : Nat} {V W : World} (h : SmR A T S O n k off w s0 V W) (hk : off = 16 * k) (hc : c ≤ 16) :
    SmR A T S O n k (off + c) w s0 V (W.setRow O (bA n (spl (uptoC (maskF w s0 fun _ => 0) off) off c (enc w (be (s0 + k)))))) := by
  have l := h.lt
  have a := h.l1
  have b := h.l2
  have d := h.l3
  refine ⟨by rw [setRow_other _ _ _ _ (by omega)]; exact h.st, by rw [setRow_other _ _ _ _ (by omega)]; exact h.tb, by rw [setRow_other _ _ _ _ (by omega)]; exact h.ss, ?_, a, b, d, below4 h.bel (by omega) _⟩
  rw [setRow_heap _ _ _ _ _ _ h.oo]
  congr 3
  funext i
  unfold spl uptoC
  by_cases h1 : off ≤ i ∧ i < off + c
  · rw [if_pos h1, if_pos h1.2]
    unfold maskF
    rw [Nat.zero_xor, show i / 16 = k by omega, show i % 16 = i - off by omega]
  · rw [if_neg h1]
    by_cases h2 : i < off
    · rw [if_pos h2, if_pos (by omega)]
    · rw [if_neg h2, if_neg (by omega)]
theorem SmR.next {A T S O n k off : Nat} {w : Nat → Nat} {s0 : Nat} {V W : World} (h : SmR A T S O n k off w s0 V W) : SmR A T S O n (k + 1) off w s0 V (W.setRow (A + 1) (bA 16 (be (s0 + k + 1)))) := by
  have l := h.lt
  have a := h.l1
  have b := h.l2
  have d := h.l3
  exact ⟨setRow_heap _ _ _ _ _ _ h.st, by rw [setRow_other _ _ _ _ (by omega)]; exact h.tb, by rw [setRow_other _ _ _ _ (by omega)]; exact h.ss, by rw [setRow_other _ _ _ _ (by omega)]; exact h.oo, a, b, d, below4 h.bel (by omega) _⟩
def lenV (v : Value) : Nat := match v with | .slice _ m _ => m | _ => 0
end Go.Proofs.YthmlfglllhmimaaGreatDoor.Aes
