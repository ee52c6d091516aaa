import Derived.Test.YthmlfglllhmimaaGreatDoorL2
namespace Go.Proofs.YthmlfglllhmimaaGreatDoor.Gf8
/- The field of 256 elements over Nat: pure, it names nothing of a program. -/

/-- a or nothing. -/
def pick (c : Bool) (a : Nat) : Nat := bif c then a else 0
/-- x times a. -/
def xt (a : Nat) : Nat := (a + a) ^^^ pick (a.testBit 7) 283
/-- The product by the first k bits of b. -/
def gmN : Nat → Nat → Nat → Nat
  | 0, _, _ => 0
  | k + 1, a, b => pick (b.testBit 0) a ^^^ gmN k (xt a) (b / 2)
/-- The product. -/
def gm (a b : Nat) : Nat := gmN 8 a b
/-- The substitution. -/
def subT : List Nat := [99, 124, 119, 123, 242, 107, 111, 197, 48, 1, 103, 43, 254, 215, 171, 118, 202, 130, 201, 125, 250, 89, 71, 240, 173, 212, 162, 175, 156, 164, 114, 192, 183, 253, 147, 38, 54, 63, 247, 204, 52, 165, 229, 241, 113, 216, 49, 21, 4, 199, 35, 195, 24, 150, 5, 154, 7, 18, 128, 226, 235, 39, 178, 117, 9, 131, 44, 26, 27, 110, 90, 160, 82, 59, 214, 179, 41, 227, 47, 132, 83, 209, 0, 237, 32, 252, 177, 91, 106, 203, 190, 57, 74, 76, 88, 207, 208, 239, 170, 251, 67, 77, 51, 133, 69, 249, 2, 127, 80, 60, 159, 168, 81, 163, 64, 143, 146, 157, 56, 245, 188, 182, 218, 33, 16, 255, 243, 210, 205, 12, 19, 236, 95, 151, 68, 23, 196, 167, 126, 61, 100, 93, 25, 115, 96, 129, 79, 220, 34, 42, 144, 136, 70, 238, 184, 20, 222, 94, 11, 219, 224, 50, 58, 10, 73, 6, 36, 92, 194, 211, 172, 98, 145, 149, 228, 121, 231, 200, 55, 109, 141, 213, 78, 169, 108, 86, 244, 234, 101, 122, 174, 8, 186, 120, 37, 46, 28, 166, 180, 198, 232, 221, 116, 31, 75, 189, 139, 138, 112, 62, 181, 102, 72, 3, 246, 14, 97, 53, 87, 185, 134, 193, 29, 158, 225, 248, 152, 17, 105, 217, 142, 148, 155, 30, 135, 233, 206, 85, 40, 223, 140, 161, 137, 13, 191, 230, 66, 104, 65, 153, 45, 15, 176, 84, 187, 22]
def gsub (a : Nat) : Nat := subT.getD a 0
/-- Row k of the mixing with the factors f. -/
def mixk (f c : Nat → Nat) (k : Nat) : Nat := gm (f ((0 + 4 - k) % 4)) (c 0) ^^^ gm (f ((1 + 4 - k) % 4)) (c 1) ^^^ gm (f ((2 + 4 - k) % 4)) (c 2) ^^^ gm (f ((3 + 4 - k) % 4)) (c 3)
def fwd : Nat → Nat := fun i => [2, 3, 1, 1].getD i 0
end Go.Proofs.YthmlfglllhmimaaGreatDoor.Gf8

namespace Go.Proofs.YthmlfglllhmimaaGreatDoor.Aes
open Gf8
/- AES-128 over Nat: pure, it names nothing of a program. A block is a function of the places 0 .. 15. -/

/-- The round's constant: x's power. -/
def rcon : Nat → Nat
  | 0 => 1
  | n + 1 => xt (rcon n)
/-- The bytes of the round keys. -/
def kwG (key : Nat → Nat) : Nat → Nat → Nat
  | 0, _ => 0
  | f + 1, i => if i < 16 then key i else kwG key f (i - 16) ^^^ (if i % 16 < 4 then gsub (kwG key f (i / 4 * 4 - 4 + (i + 1) % 4)) ^^^ (if i % 16 = 0 then rcon (i / 16 - 1) else 0) else kwG key f (i - 4))
def kw (key : Nat → Nat) (i : Nat) : Nat := kwG key (i + 1) i
theorem kw_low (key : Nat → Nat) {i : Nat} (h : i < 16) : kw key i = key i := by rw [kw, kwG, if_pos h]
/-- Round key number i laid over a block. -/
def addR (w b : Nat → Nat) (i : Nat) : Nat → Nat := fun j => b j ^^^ w (16 * i + j)
/-- Each byte substituted, each row turned to the left. -/
def subS (b : Nat → Nat) : Nat → Nat := fun j => gsub (b ((j + 4 * (j % 4)) % 16))
/-- The columns mixed, and the way back. -/
def mixB (f b : Nat → Nat) : Nat → Nat := fun j => mixk f (fun r => b (j / 4 * 4 + r)) (j % 4)
/-- What lies behind i rounds of encrypting. -/
def encN (w b : Nat → Nat) : Nat → (Nat → Nat)
  | 0 => addR w b 0
  | i + 1 => addR w (if i + 1 < 10 then mixB fwd (subS (encN w b i)) else subS (encN w b i)) (i + 1)
def enc (w b : Nat → Nat) : Nat → Nat := encN w b 10
/-- Two blocks are one. -/
def Eq16 (a b : Nat → Nat) : Prop := ∀ j, j < 16 → a j = b j
/-- All bytes. -/
def By (b : Nat → Nat) : Prop := ∀ j, j < 16 → b j < 256
theorem Eq16.refl (a : Nat → Nat) : Eq16 a a := fun _ _ => rfl
theorem Eq16.trans {a b c : Nat → Nat} (h : Eq16 a b) (g : Eq16 b c) : Eq16 a c := fun j hj => (h j hj).trans (g j hj)
theorem Eq16.symm {a b : Nat → Nat} (h : Eq16 a b) : Eq16 b a := fun j hj => (h j hj).symm
def three (c : Nat → Nat) : Nat → Nat := mixk fwd (mixk fwd (mixk fwd c))
/-- A block as one number, big-endian, and back. -/
def be (n : Nat) : Nat → Nat := fun j => n / 256 ^ (15 - j) % 256
def numN (b : Nat → Nat) : Nat → Nat
  | 0 => 0
  | k + 1 => numN b k * 256 + b k
def num (b : Nat → Nat) : Nat := numN b 16
end Go.Proofs.YthmlfglllhmimaaGreatDoor.Aes
