import Derived.Test.YtghnhfigihnciaaGreatR0
namespace Go.Proofs.YtghnhfigihnciaaGreat.Aes
open Gf8
/- AES-128 over Nat: pure, it names nothing of a program. A block is a function of the places 0 .. 15. -/

/-- The round's constant: x's power. -/
def rcon : Nat → Nat
  | 0 => 1
  | n + 1 => xt (rcon n)
/-- The bytes of the round keys. -/
def kwG (key : Nat → Nat) : Nat → Nat → Nat
  | 0, _ => 0
  | f + 1, i => if i < 16 then key i else kwG key f (i - 16) ^^^ (if i % 16 < 4 then gsub (kwG key f (i / 4 * 4 - 4 + (i + 1) % 4)) ^^^ (if i % 16 = 0 then rcon (i / 16 - 1) else 0) else kwG key f (i - 4))
def kw (key : Nat → Nat) (i : Nat) : Nat := kwG key (i + 1) i
/-- Round key number i laid over a block. -/
def addR (w b : Nat → Nat) (i : Nat) : Nat → Nat := fun j => b j ^^^ w (16 * i + j)
/-- Each byte substituted, each row turned to the left. -/
def subS (b : Nat → Nat) : Nat → Nat := fun j => gsub (b ((j + 4 * (j % 4)) % 16))
/-- The columns mixed, and the way back. -/
def mixB (f b : Nat → Nat) : Nat → Nat := fun j => mixk f (fun r => b (j / 4 * 4 + r)) (j % 4)
/-- What lies behind i rounds of encrypting. -/
def encN (w b : Nat → Nat) : Nat → (Nat → Nat)
  | 0 => addR w b 0
  | i + 1 => addR w (if i + 1 < 10 then mixB fwd (subS (encN w b i)) else subS (encN w b i)) (i + 1)
def enc (w b : Nat → Nat) : Nat → Nat := encN w b 10
/-- Two blocks are one. -/
def Eq16 (a b : Nat → Nat) : Prop := ∀ j, j < 16 → a j = b j
theorem Eq16.refl (a : Nat → Nat) : Eq16 a a := fun _ _ => rfl
theorem Eq16.trans {a b c : Nat → Nat} (h : Eq16 a b) (g : Eq16 b c) : Eq16 a c := fun j hj => (h j hj).trans (g j hj)
theorem Eq16.symm {a b : Nat → Nat} (h : Eq16 a b) : Eq16 b a := fun j hj => (h j hj).symm
def three (c : Nat → Nat) : Nat → Nat := mixk fwd (mixk fwd (mixk fwd c))
/-- A block as one number, big-endian, and back. -/
def be (n : Nat) : Nat → Nat := fun j => n / 256 ^ (15 - j) % 256
def numN (b : Nat → Nat) : Nat → Nat
  | 0 => 0
  | k + 1 => numN b k * 256 + b k
def num (b : Nat → Nat) : Nat := numN b 16
end Go.Proofs.YtghnhfigihnciaaGreat.Aes
