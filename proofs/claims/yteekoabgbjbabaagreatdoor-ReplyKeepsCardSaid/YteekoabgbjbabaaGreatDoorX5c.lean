import Derived.Test.YteekoabgbjbabaaGreatDoorP3
import Derived.Test.YteekoabgbjbabaaGreatDoorO0
import Derived.Test.YteekoabgbjbabaaGreatDoorI1
import Derived.Test.YteekoabgbjbabaaGreatDoorJ0
namespace Go.Proofs.YteekoabgbjbabaaGreatDoor.Oni
open Go.RowKit Gf8 Aes By8 Cel
/- Layer 7 (onion) over Nat. -/

def ci (p : Nat → Nat) : Nat → Int := fun i => (p i : Int)
def chF : Nat → Nat := fun j => [99, 104, 117, 114, 110].getD j 0
/-- The derived bytes: the box's key (16), the tag's (32), the replay's (32). -/
def dk (key nonce : Nat → Nat) : Nat → Nat := fun j => (ebK (exK (ci key) 32 (ci nonce) 16) 32 (ci chF) 5 j).toNat
theorem dk_lt (key nonce : Nat → Nat) (j : Nat) : dk key nonce j < 256 := by
  have := eb_bd (inS (exK (ci key) 32 (ci nonce) 16) 32) (outS (exK (ci key) 32 (ci nonce) 16) 32) (ci chF) 5 j
  unfold dk ebK
  omega
theorem dk_ci (key nonce : Nat → Nat) : ci (dk key nonce) = ebK (exK (ci key) 32 (ci nonce) 16) 32 (ci chF) 5 := by
  funext j
  have := eb_bd (inS (exK (ci key) 32 (ci nonce) 16) 32) (outS (exK (ci key) 32 (ci nonce) 16) 32) (ci chF) 5 j
  exact Int.toNat_of_nonneg this.1
theorem upto_congr {f g : Nat → Int} {k : Nat} (h : ∀ i, i < k → f i = g i) : upto f k = upto g k := by
  funext i
  unfold upto
  split
  · exact h i (by assumption)
  · rfl
theorem kB_congr {f g : Nat → Int} {k : Nat} (h : ∀ i, i < k → f i = g i) : kB f k = kB g k := by
  unfold kB
  rw [upto_congr h, addN_congr HS.new k h]
theorem inS_congr {f g : Nat → Int} {k : Nat} (h : ∀ i, i < k → f i = g i) : inS f k = inS g k := by unfold inS; rw [kB_congr h]
theorem outS_congr {f g : Nat → Int} {k : Nat} (h : ∀ i, i < k → f i = g i) : outS f k = outS g k := by unfold outS; rw [kB_congr h]
theorem tagV_congr {f g p q : Nat → Int} {k m : Nat} (h : ∀ i, i < k → f i = g i) (e : ∀ i, i < m → p i = q i) : tagV f k p m = tagV g k q m := by
  unfold tagV
  rw [inS_congr h, outS_congr h, addN_congr _ m e]
theorem dk_congr {key key' nonce nonce' : Nat → Nat} (h : ∀ i, i < 32 → key i = key' i) (e : ∀ i, i < 16 → nonce i = nonce' i) : dk key nonce = dk key' nonce' := by
  unfold dk exK
  rw [tagV_congr (f := ci nonce) (g := ci nonce') (p := ci key) (q := ci key') (fun i hi => by unfold ci; rw [e i hi]) (fun i hi => by unfold ci; rw [h i hi])]
/-- An onion's size. -/
def sz (left : Int) : Nat := if 1 ≤ left ∧ left ≤ 8 then 48 + 34 * left.toNat else 0
theorem sz_le (left : Int) : sz left ≤ 320 := by unfold sz; split <;> omega
theorem sz_pos {left : Int} (h : sz left ≠ 0) : 1 ≤ left ∧ left ≤ 8 ∧ sz left = 48 + 34 * left.toNat ∧ 82 ≤ sz left := by
  unfold sz at h ⊢
  split at h
  · rename_i q
    rw [if_pos q]
    omega
  · exact absurd rfl h
def mcK (d : Nat → Nat) : Nat → Nat := fun j => d (16 + j)
def rpK (d : Nat → Nat) : Nat → Nat := fun j => d (48 + j)
/-- A keyed digest's bytes (the first 16 are taken). -/
def hfF (key m : Nat → Nat) (l : Nat) : Nat → Nat := fun j => (tagV (ci key) 32 (ci m) l j).toNat
theorem hfF_bd (key m : Nat → Nat) (l j : Nat) : 0 ≤ tagV (ci key) 32 (ci m) l j ∧ tagV (ci key) 32 (ci m) l j < 256 := by unfold tagV tagD; exact sumD_bd _ j
theorem hfF_lt (key m : Nat → Nat) (l j : Nat) : hfF key m l j < 256 := by
  have := hfF_bd key m l j
  unfold hfF
  omega
theorem hfF_ci (key m : Nat → Nat) (l : Nat) : ci (hfF key m l) = tagV (ci key) 32 (ci m) l := by
  funext j
  exact Int.toNat_of_nonneg (hfF_bd key m l j).1
theorem hfF_congr {key key' m m' : Nat → Nat} {l : Nat} (h : ∀ i, i < 32 → key i = key' i) (e : ∀ i, i < l → m i = m' i) : hfF key m l = hfF key' m' l := by
  unfold hfF
  rw [tagV_congr (f := ci key) (g := ci key') (p := ci m) (q := ci m') (fun i hi => by unfold ci; rw [h i hi]) (fun i hi => by unfold ci; rw [e i hi])]
/-- What the tag is of. -/
def tmF (left : Nat) (nonce box : Nat → Nat) : Nat → Nat := fun j => if j = 0 then left else if j < 17 then nonce (j - 1) else box (j - 17)
def tgF (d : Nat → Nat) (left : Nat) (nonce box : Nat → Nat) (bl : Nat) : Nat → Nat := hfF (mcK d) (tmF left nonce box) (17 + bl)
theorem tgF_congr {d nonce nonce' box box' : Nat → Nat} {left bl : Nat} (h : ∀ i, i < 16 → nonce i = nonce' i) (e : ∀ i, i < bl → box i = box' i) : tgF d left nonce box bl = tgF d left nonce' box' bl := by
  unfold tgF
  refine hfF_congr (fun _ _ => rfl) fun i hi => ?_
  unfold tmF
  split
  · rfl
  · split
    · exact h _ (by omega)
    · exact e _ (by omega)
def hd2 (n : Nat) : Nat → Nat := fun j => if j = 0 then n / 256 else n % 256
/-- The plain box. -/
def pbF (n : Nat) (inner : Nat → Nat) : Nat → Nat := cellF 2 (hd2 n) n inner
theorem pbF_lt {n : Nat} {inner : Nat → Nat} (hn : n < 65536) (h : ∀ j, j < n → inner j < 256) (j : Nat) : pbF n inner j < 256 := by
  refine cellF_lt (fun i _ => ?_) h j
  unfold hd2
  split <;> omega
def bxF (d p : Nat → Nat) : Nat → Nat := maskF (kw d) 0 p
def onB (nonce tg box : Nat → Nat) : Nat → Nat := fun j => if j < 16 then nonce j else if j < 32 then tg (j - 16) else box (j - 32)
/-- The onion. -/
def wrF (key nonce : Nat → Nat) (left n : Nat) (inner : Nat → Nat) : Nat → Nat :=
  onB nonce (tgF (dk key nonce) left nonce (bxF (dk key nonce) (pbF n inner)) (sz left - 32)) (bxF (dk key nonce) (pbF n inner))
def wrE (lk : Nat) (left : Int) (n : Nat) : Nat := if lk ≠ 32 ∨ sz left = 0 then 2 else if sz left - 34 < n then 1 else 0
def wrN (lk : Nat) (left : Int) (n : Nat) : Nat := if wrE lk left n = 0 then sz left else 0
/-- What an onion c is peeled to. -/
def peT (key : Nat → Nat) (left : Int) (c : Nat → Nat) : Bool := eqB 16 (fun j => c (16 + j)) (tgF (dk key c) left.toNat c (fun j => c (32 + j)) (sz left - 32))
def peP (key c : Nat → Nat) : Nat → Nat := bxF (dk key c) fun j => c (32 + j)
def inN (p : Nat → Nat) : Nat := p 0 * 256 + p 1
def inOk (m : Nat) (p : Nat → Nat) : Bool := decide (inN p ≤ m - 2) && zeroF m p (2 + inN p)
def peE (lk : Nat) (left : Int) (len : Nat) (key c : Nat → Nat) : Nat :=
  if lk ≠ 32 ∨ sz left = 0 then 2 else if cutE c len (sz left) ≠ 0 then cutE c len (sz left) else if peT key left c = false then 70 else if inOk (sz left - 32) (peP key c) = false then 71 else 0
def nxF (left : Int) (n : Nat) (inner : Nat → Nat) : Nat → Nat := if left > 1 then cellF 0 headO n inner else cellF 2 (headP n) n inner
def peC (left : Int) (key c : Nat → Nat) : Nat → Nat := nxF left (inN (peP key c)) fun j => peP key c (2 + j)
def peN (E : Nat) : Nat := if E = 0 then 320 else 0
def peR (E : Nat) (key c : Nat → Nat) : Nat → Nat := if E = 0 then hfF (rpK (dk key c)) c 32 else fun _ => 0
end Go.Proofs.YteekoabgbjbabaaGreatDoor.Oni
