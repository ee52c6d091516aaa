import Derived.Test.YtgklhjnojmpmlaaGreatDoorX7b
import Derived.Test.YtgklhjnojmpmlaaGreatDoorY3
import Derived.Lib.Bytes
import Derived.Test.YtgklhjnojmpmlaaGreatDoorK7
import Derived.Deep.QuietTactic
namespace Go.Proofs.YtgklhjnojmpmlaaGreatDoor.Frm
open Go.RowKit Gf8 Aes By8
/- Layer 6 (frame) over Nat: numbers in bytes, the foot; the reference's number, foot, read, copied. -/

def lenV (v : Value) : Nat := match v with | .slice _ m _ => m | _ => 0
/-- n in k bytes, the highest first. -/
def numF (n k : Nat) : Nat → Nat := fun j => n / 256 ^ (k - 1 - j) % 256
/-- The foot's two numbers behind i bytes. -/
def adl (p : Nat → Nat) : Nat → Nat × Nat
  | 0 => (1, 0)
  | i + 1 => (((adl p i).1 + p i) % 65521, ((adl p i).2 + ((adl p i).1 + p i) % 65521) % 65521)
theorem adl_lt (p : Nat → Nat) : ∀ i, (adl p i).1 < 65521 ∧ (adl p i).2 < 65521
  | 0 => ⟨by show 1 < 65521; omega, by show 0 < 65521; omega⟩
  | i + 1 => ⟨Nat.mod_lt _ (by omega), Nat.mod_lt _ (by omega)⟩
def footF (p : Nat → Nat) (len : Nat) : Nat → Nat := numF ((adl p len).2 * 65536 + (adl p len).1) 4
/-- The number in k bytes from at on; above 2^63: -1. -/
def rdN (raw : Nat → Nat) (at' : Nat) : Nat → Int
  | 0 => 0
  | i + 1 => if rdN raw at' i < 0 ∨ 36028797018963968 ≤ rdN raw at' i then -1 else rdN raw at' i * 256 + raw (at' + i)

end Go.Proofs.YtgklhjnojmpmlaaGreatDoor.Frm

namespace Go.Proofs.YtgklhjnojmpmlaaGreatDoor.Frm
open Go.RowKit Gf8 Aes By8
/- Layer 6 (frame): the reference's wrong. -/

def e60 (n : Int) : Nat := if n < 0 ∨ 4611686018427387904 ≤ n then 62 else 0
def e61 (n : Int) : Nat := if n < 0 ∨ 4611686018427387904 < n then 62 else 0

def magicF : Nat → Nat
  | 0 => 67
  | 1 => 72
  | 2 => 82
  | _ => 78
/-- The places at which a field begins, and where it ends. -/
def startN : Nat → Nat
  | 0 => 0
  | 1 => 4
  | 2 => 5
  | 3 => 6
  | 4 => 8
  | 5 => 16
  | _ => 24
/-- The error of field f, or 0. -/
def wrongN (p : Nat → Nat) : Nat → Nat
  | 0 => if p 0 = 67 ∧ p 1 = 72 ∧ p 2 = 82 ∧ p 3 = 78 then 0 else 60
  | 1 => if p 4 = 1 then 0 else 61
  | 2 => if p 5 ≤ 8 then 0 else 62
  | 3 => if rdN p 6 2 ≤ 256 then 0 else 63
  | 4 => e60 (rdN p 8 8)
  | _ => e61 (rdN p 16 8)
end Go.Proofs.YtgklhjnojmpmlaaGreatDoor.Frm

namespace Go.Proofs.YtgklhjnojmpmlaaGreatDoor.Frm
open Go.RowKit Gf8 Aes By8
/- Judging over Nat. -/

/-- The fault of the fields from field 6 - k on: its place and error; (0, 0): none. -/
def headR (p : Nat → Nat) (len : Nat) : Nat → Nat × Nat
  | 0 => (0, 0)
  | k + 1 => if len < startN (5 - k + 1) then (len, 67) else if wrongN p (5 - k) ≠ 0 then (startN (5 - k), wrongN p (5 - k)) else headR p len k
/-- The header's fault. -/
def headE (p : Nat → Nat) (len : Nat) : Nat × Nat := headR p len 6
/-- Is the header whole and right? -/
def headOk (p : Nat → Nat) (len : Nat) : Bool := decide (24 ≤ len) && (List.range 6).all fun f => wrongN p f == 0
theorem headOk_iff (p : Nat → Nat) (len : Nat) : headOk p len = true ↔ 24 ≤ len ∧ ∀ f, f < 6 → wrongN p f = 0 := by
  unfold headOk
  simp [List.all_eq_true]
def nCells (p : Nat → Nat) : Nat := (rdN p 6 2).toNat
def cellAt (i : Nat) : Nat := 24 + 322 * i
/-- The length that stands ahead of cell i. -/
def cellLen (p : Nat → Nat) (i : Nat) : Int := rdN p (cellAt i) 2
def okC (p : Nat → Nat) (len i : Nat) : Bool := decide (cellAt (i + 1) ≤ len) && decide (cellLen p i = 320)
/-- How many of n cells are whole and right from the front. -/
def wholeK (p : Nat → Nat) (len : Nat) : Nat → Nat
  | 0 => 0
  | n + 1 => if wholeK p len n = n ∧ okC p len n = true then n + 1 else wholeK p len n
theorem wholeK_le (p : Nat → Nat) (len : Nat) : ∀ n, wholeK p len n ≤ n
  | 0 => Nat.le_refl _
  | n + 1 => by
    rw [wholeK]
    have := wholeK_le p len n
    split <;> omega
theorem wholeK_ok (p : Nat → Nat) (len : Nat) : ∀ n i, i < wholeK p len n → okC p len i = true
  | 0, i, h => by rw [wholeK] at h; omega
  | n + 1, i, h => by
    rw [wholeK] at h
    split at h
    · rename_i g
      by_cases e : i = n
      · rw [e]; exact g.2
      · exact wholeK_ok p len n i (by rw [g.1]; omega)
    · exact wholeK_ok p len n i h
theorem wholeK_stop (p : Nat → Nat) (len : Nat) : ∀ n, wholeK p len n < n → okC p len (wholeK p len n) = false
  | 0, h => by omega
  | n + 1, h => by
    rw [wholeK] at h ⊢
    split
    · rename_i g
      rw [if_pos g] at h
      omega
    · rename_i g
      by_cases e : wholeK p len n = n
      · rw [e]
        cases hk : okC p len n with
        | false => rfl
        | true => exact absurd ⟨e, hk⟩ g
      · exact wholeK_stop p len n (by have := wholeK_le p len n; omega)
/-- What marks the number: k cells are right, and the next one isn't, if there is one. -/
theorem wholeK_eq (p : Nat → Nat) (len n k : Nat) (hk : k ≤ n) (h1 : ∀ i, i < k → okC p len i = true) (h2 : k < n → okC p len k = false) : wholeK p len n = k := by
  have a := wholeK_le p len n
  by_cases h : wholeK p len n < k
  · have b := wholeK_stop p len n (by omega)
    rw [h1 _ h] at b
    cases b
  · by_cases e : wholeK p len n = k
    · exact e
    · have b := wholeK_ok p len n k (by omega)
      rw [h2 (by omega)] at b
      cases b
/-- The fault behind k whole cells of n. -/
def tailE (p : Nat → Nat) (len n k : Nat) : Nat × Nat :=
  if k < n then (if cellAt k + 2 ≤ len ∧ cellLen p k ≠ 320 then (cellAt k, 64) else (len, 67))
  else if len < cellAt n + 4 then (len, 67)
  else if ∀ j, j < 4 → p (cellAt n + j) = footF p (cellAt n) j then (if cellAt n + 4 < len then (cellAt n + 4, 66) else (0, 0))
  else (cellAt n, 65)
/-- All that judging comes to: the cells that are whole. -/
def jK (p : Nat → Nat) (len : Nat) : Nat := if headOk p len then wholeK p len (nCells p) else 0
/-- The fault: its place and its error. -/
def jE (p : Nat → Nat) (len : Nat) : Nat × Nat := if headOk p len then tailE p len (nCells p) (wholeK p len (nCells p)) else headE p len
/-- The header's numbers. -/
def jRound (p : Nat → Nat) (len : Nat) : Int := if headOk p len then rdN p 8 8 else 0
def jEpoch (p : Nat → Nat) (len : Nat) : Int := if headOk p len then rdN p 16 8 else 0
def jLeft (p : Nat → Nat) (len : Nat) : Int := if headOk p len then (p 5 : Int) else 0
/-- Cell i's bytes. -/
def cellB (p : Nat → Nat) (i : Nat) : Nat → Nat := fun j => p (cellAt i + 2 + j)
/-- What Put answers beside the cells. -/
def feedE (p : Nat → Nat) (len : Nat) : Nat := if (jE p len).2 = 67 then 0 else (jE p len).2

theorem headR_step (p : Nat → Nat) (len f : Nat) (hf : f < 6) (h : ∀ g, g < f → startN (g + 1) ≤ len ∧ wrongN p g = 0) : headE p len = headR p len (6 - f) := by
  unfold headE
  have go : ∀ f, f ≤ 6 → (∀ g, g < f → startN (g + 1) ≤ len ∧ wrongN p g = 0) → headR p len 6 = headR p len (6 - f) := by
    intro f
    induction f with
    | zero => intro _ _; rfl
    | succ f ih =>
      intro h6 h
      rw [ih (by omega) fun g hg => h g (by omega)]
      obtain ⟨a, b⟩ := h f (by omega)
      rw [show 6 - f = (6 - (f + 1)) + 1 by omega, headR, show 5 - (6 - (f + 1)) = f by omega, if_neg (by omega), if_neg (by rw [b]; simp)]
  exact go f (by omega) h
theorem headE_short (p : Nat → Nat) (len f : Nat) (hf : f < 6) (h : ∀ g, g < f → startN (g + 1) ≤ len ∧ wrongN p g = 0) (hs : len < startN (f + 1)) : headE p len = (len, 67) := by
  rw [headR_step p len f hf h, show 6 - f = (5 - f) + 1 by omega, headR, show 5 - (5 - f) = f by omega, if_pos hs]
theorem headE_wrong (p : Nat → Nat) (len f : Nat) (hf : f < 6) (h : ∀ g, g < f → startN (g + 1) ≤ len ∧ wrongN p g = 0) (hs : startN (f + 1) ≤ len) (hw : wrongN p f ≠ 0) : headE p len = (startN f, wrongN p f) := by
  rw [headR_step p len f hf h, show 6 - f = (5 - f) + 1 by omega, headR, show 5 - (5 - f) = f by omega, if_neg (by omega), if_pos hw]
theorem headOk_no (p : Nat → Nat) (len f : Nat) (hf : f < 6) (h : len < startN (f + 1) ∨ wrongN p f ≠ 0) : headOk p len = false := by
  cases e : headOk p len with
  | false => rfl
  | true =>
    obtain ⟨a, b⟩ := (headOk_iff p len).1 e
    rcases h with h | h
    · have : startN (f + 1) ≤ 24 := by
        match f, hf with
        | 0, _ => decide
        | 1, _ => decide
        | 2, _ => decide
        | 3, _ => decide
        | 4, _ => decide
        | 5, _ => decide
        | n + 6, h => omega
      omega
    · exact absurd (b f hf) h
theorem rd2 (p : Nat → Nat) (a : Nat) (h : p a < 256) : rdN p a 2 = (p a * 256 + p (a + 1) : Nat) := by
  have e1 : rdN p a 1 = p a := by
    rw [rdN, if_neg (by rw [rdN]; omega), rdN, Nat.add_zero]
    omega
  rw [rdN, e1, if_neg (by omega)]
  omega
end Go.Proofs.YtgklhjnojmpmlaaGreatDoor.Frm

namespace Go.Proofs.YtgklhjnojmpmlaaGreatDoor.Frm
open Go.RowKit Gf8 Aes By8
/- A batch's bytes over Nat: packed, read back, one byte turned. -/

theorem adl_congr {p q : Nat → Nat} : ∀ {n : Nat}, (∀ j, j < n → p j = q j) → adl p n = adl q n
  | 0, _ => rfl
  | n + 1, h => by rw [adl, adl, adl_congr fun j hj => h j (by omega), h n (by omega)]
theorem footF_congr {p q : Nat → Nat} {n : Nat} (h : ∀ j, j < n → p j = q j) : footF p n = footF q n := by
  unfold footF
  rw [adl_congr h]
/-- What was read, laid in bytes, is what stood there. -/
theorem num_rd (p : Nat → Nat) (a k n : Nat) (hb : ∀ j, j < k → p (a + j) < 256) (h : rdN p a k = n) : ∀ j, j < k → numF n k j = p (a + j) := by
  have part : ∀ d i, i + d = k → rdN p a i = (n / 256 ^ d : Nat) := by
    intro d
    induction d with
    | zero => intro i hi; rw [Nat.pow_zero, Nat.div_one, ← h]; exact congrArg _ (by omega)
    | succ d ih =>
      intro i hi
      have e := ih (i + 1) (by omega)
      rw [rdN] at e
      have hb' := hb i (by omega)
      rw [Nat.pow_succ, ← Nat.div_div_eq_div_mul]
      obtain ⟨x, hx⟩ : ∃ x, n / 256 ^ d = x := ⟨_, rfl⟩
      rw [hx] at e ⊢
      split at e
      · omega
      · omega
  intro j hj
  have e1 := part (k - 1 - j) (j + 1) (by omega)
  have e0 := part (k - j) j (by omega)
  rw [rdN] at e1
  have hb' := hb j hj
  unfold numF
  obtain ⟨x, hx⟩ : ∃ x, n / 256 ^ (k - 1 - j) = x := ⟨_, rfl⟩
  rw [hx] at e1 ⊢
  obtain ⟨y, hy⟩ : ∃ y, n / 256 ^ (k - j) = y := ⟨_, rfl⟩
  rw [hy] at e0
  split at e1
  · omega
  · omega

/-- The bytes ahead of the foot. -/
def packB (rd ep lf n : Nat) (c : Nat → Nat → Nat) : Nat → Nat := fun j =>
  if j < 4 then magicF j else if j = 4 then 1 else if j = 5 then lf else if j < 8 then numF n 2 (j - 6) else if j < 16 then numF rd 8 (j - 8) else if j < 24 then numF ep 8 (j - 16)
  else if (j - 24) % 322 < 2 then numF 320 2 ((j - 24) % 322) else c ((j - 24) / 322) ((j - 24) % 322 - 2)
/-- A batch's bytes. -/
def packF (rd ep lf n : Nat) (c : Nat → Nat → Nat) : Nat → Nat := fun j => if j < cellAt n then packB rd ep lf n c j else footF (packB rd ep lf n c) (cellAt n) (j - cellAt n)
theorem cellAt_ge (n : Nat) : 24 ≤ cellAt n := by unfold cellAt; omega
theorem cellAt_mono {i n : Nat} (h : i < n) : cellAt i + 322 ≤ cellAt n := by unfold cellAt; omega
theorem cellAt_succ (n : Nat) : cellAt (n + 1) = cellAt n + 322 := by unfold cellAt; omega

structure Good (rd ep lf n : Nat) : Prop where
  rd : rd < 4611686018427387904
  ep : ep ≤ 4611686018427387904
  lf : lf ≤ 8
  n : n ≤ 256
/-- The fields of bytes that are a batch. -/
theorem ok_parts {p : Nat → Nat} {len : Nat} (_hb : ∀ j, j < len → p j < 256) (h : (jE p len).2 = 0) :
    headOk p len = true ∧ nCells p ≤ 256 ∧ len = cellAt (nCells p) + 4 ∧ wholeK p len (nCells p) = nCells p ∧ (∀ i, i < nCells p → cellLen p i = 320) ∧ (∀ j, j < 4 → p (cellAt (nCells p) + j) = footF p (cellAt (nCells p)) j) ∧ jE p len = (0, 0) := by
  cases hok : headOk p len with
  | false =>
    unfold jE at h
    rw [hok, if_neg (by simp)] at h
    exfalso
    have go : ∀ k, k ≤ 6 → (headR p len k).2 = 0 → ∀ f, 6 - k ≤ f → f < 6 → startN (f + 1) ≤ len ∧ wrongN p f = 0 := by
      intro k
      induction k with
      | zero => intro _ _ f h1 h2; omega
      | succ k ih =>
        intro hk h0 f h1 h2
        rw [headR] at h0
        split at h0
        · cases h0
        · split at h0
          · rename_i w; exact absurd h0 w
          · by_cases e : f = 5 - k
            · subst e
              rename_i a b
              exact ⟨by omega, by simpa using b⟩
            · exact ih (by omega) h0 f (by omega) h2
    have all := go 6 (Nat.le_refl _) h
    have ok : headOk p len = true := (headOk_iff p len).2 ⟨(all 5 (by omega) (by omega)).1, fun f hf => (all f (by omega) hf).2⟩
    rw [hok] at ok
    cases ok
  | true =>
    have hj : jE p len = tailE p len (nCells p) (wholeK p len (nCells p)) := by unfold jE; rw [hok, if_pos rfl]
    rw [hj] at h
    obtain ⟨h24, hf⟩ := (headOk_iff p len).1 hok
    have h3 : rdN p 6 2 ≤ 256 := by
      have this : (if rdN p 6 2 ≤ 256 then 0 else 63) = 0 := hf 3 (by omega)
      split at this
      · assumption
      · cases this
    have hn : nCells p ≤ 256 := by unfold nCells; omega
    unfold tailE at h
    split at h
    · split at h <;> cases h
    · rename_i hk
      have hkn : wholeK p len (nCells p) = nCells p := by have := wholeK_le p len (nCells p); omega
      split at h
      · cases h
      · rename_i hl
        split at h
        · rename_i hfoot
          split at h
          · cases h
          · rename_i hm
            have hlen : len = cellAt (nCells p) + 4 := by omega
            refine ⟨rfl, hn, hlen, hkn, fun i hi => ?_, hfoot, ?_⟩
            · have := wholeK_ok p len (nCells p) i (by omega)
              unfold okC at this
              simp at this
              exact this.2
            · rw [hj]
              unfold tailE
              rw [if_neg hk, if_neg hl, if_pos hfoot, if_neg hm]
        · cases h
theorem ok_good {p : Nat → Nat} {len : Nat} (hok : headOk p len = true) (hn : nCells p ≤ 256) : Good (rdN p 8 8).toNat (rdN p 16 8).toNat (p 5) (nCells p) ∧ 0 ≤ rdN p 8 8 ∧ 0 ≤ rdN p 16 8 := by
  obtain ⟨h24, hf⟩ := (headOk_iff p len).1 hok
  have h8 : 0 ≤ rdN p 8 8 ∧ rdN p 8 8 < 4611686018427387904 := by
    have this : (if rdN p 8 8 < 0 ∨ 4611686018427387904 ≤ rdN p 8 8 then 62 else 0) = 0 := hf 4 (by omega)
    split at this
    · cases this
    · omega
  have h16 : 0 ≤ rdN p 16 8 ∧ rdN p 16 8 ≤ 4611686018427387904 := by
    have this : (if rdN p 16 8 < 0 ∨ 4611686018427387904 < rdN p 16 8 then 62 else 0) = 0 := hf 5 (by omega)
    split at this
    · cases this
    · omega
  have h5 : p 5 ≤ 8 := by
    have this : (if p 5 ≤ 8 then 0 else 62) = 0 := hf 2 (by omega)
    split at this
    · assumption
    · cases this
  exact ⟨⟨by omega, by omega, h5, hn⟩, h8.1, h16.1⟩
/-- Bytes that are a batch are what it is packed to. -/
theorem back_pack {p : Nat → Nat} {len : Nat} (hb : ∀ j, j < len → p j < 256) (h : (jE p len).2 = 0) : ∀ j, j < len → p j = packF (rdN p 8 8).toNat (rdN p 16 8).toNat (p 5) (nCells p) (cellB p) j := by
  obtain ⟨hok, hn, hlen, hk, hc, hfoot, _⟩ := ok_parts hb h
  obtain ⟨g, g8, g16⟩ := ok_good hok hn
  obtain ⟨h24, hf⟩ := (headOk_iff p len).1 hok
  have body : ∀ j, j < cellAt (nCells p) → p j = packB (rdN p 8 8).toNat (rdN p 16 8).toNat (p 5) (nCells p) (cellB p) j := by
    intro j hj
    unfold packB
    have h0 : (if p 0 = 67 ∧ p 1 = 72 ∧ p 2 = 82 ∧ p 3 = 78 then 0 else 60) = 0 := hf 0 (by omega)
    have h1 : (if p 4 = 1 then 0 else 61) = 0 := hf 1 (by omega)
    split at h0
    · rename_i m
      split at h1
      · rename_i m4
        split
        · match j with
          | 0 => exact m.1
          | 1 => exact m.2.1
          | 2 => exact m.2.2.1
          | 3 => exact m.2.2.2
          | j + 4 => omega
        split
        · rename_i e; rw [e]; exact m4
        split
        · rename_i e; rw [e]
        split
        · have := num_rd p 6 2 (nCells p) (fun j hj => hb _ (by omega)) (by unfold nCells; have := rd2 p 6 (hb 6 (by omega)); omega) (j - 6) (by omega)
          rw [this, show 6 + (j - 6) = j by omega]
        split
        · have := num_rd p 8 8 (rdN p 8 8).toNat (fun j hj => hb _ (by omega)) (by omega) (j - 8) (by omega)
          rw [this, show 8 + (j - 8) = j by omega]
        split
        · have := num_rd p 16 8 (rdN p 16 8).toNat (fun j hj => hb _ (by omega)) (by omega) (j - 16) (by omega)
          rw [this, show 16 + (j - 16) = j by omega]
        · have ji : j = cellAt ((j - 24) / 322) + (j - 24) % 322 := by unfold cellAt; omega
          have il : (j - 24) / 322 < nCells p := by unfold cellAt at hj; omega
          have cm := cellAt_mono il
          split
          · have := num_rd p (cellAt ((j - 24) / 322)) 2 320 (fun j hj => hb _ (by omega)) (hc _ il) ((j - 24) % 322) (by omega)
            rw [this, ← ji]
          · unfold cellB
            exact congrArg p (by omega)
      · cases h1
    · cases h0
  intro j hj
  unfold packF
  split
  · rename_i l; exact body j l
  · have := hfoot (j - cellAt (nCells p)) (by omega)
    rw [show cellAt (nCells p) + (j - cellAt (nCells p)) = j by omega] at this
    rw [this]
    exact congrFun (footF_congr body) _
theorem numF4_inj {x y : Nat} (hx : x < 4294967296) (hy : y < 4294967296) (h : ∀ j, j < 4 → numF x 4 j = numF y 4 j) : x = y := by
  have h0 := h 0 (by omega)
  have h1 := h 1 (by omega)
  have h2 := h 2 (by omega)
  have h3 := h 3 (by omega)
  simp only [numF] at h0 h1 h2 h3
  simp at h0 h1 h2 h3
  omega
/- More bytes. -/
end Go.Proofs.YtgklhjnojmpmlaaGreatDoor.Frm

namespace Go.Proofs.YtgklhjnojmpmlaaGreatDoor.Frm
open Go.RowKit Gf8 Aes By8
/- The places of the fields, over Nat. -/

/-- How many bytes a field has. -/
def fsz : Nat → Nat
  | 0 => 4 | 1 => 1 | 2 => 1 | 3 => 2 | 4 => 8 | 5 => 8 | 6 => 2 | 7 => 320 | 8 => 4 | _ => 1
theorem fsz_pos (f : Nat) : 1 ≤ fsz f := by unfold fsz; split <;> omega
theorem fsz_le (f : Nat) : fsz f ≤ 320 := by unfold fsz; split <;> omega
/-- The number in k bytes, the highest first. -/
def nb (p : Nat → Nat) : Nat → Nat
  | 0 => 0
  | k + 1 => nb p k * 256 + p k
theorem nb_congr {p q : Nat → Nat} : ∀ {k : Nat}, (∀ j, j < k → p j = q j) → nb p k = nb q k
  | 0, _ => rfl
  | k + 1, h => by rw [nb, nb, nb_congr (k := k) fun j hj => h j (by omega), h k (by omega)]
theorem nb_lt {p : Nat → Nat} : ∀ {k : Nat}, (∀ j, j < k → p j < 256) → nb p k < 256 ^ k
  | 0, _ => by rw [nb]; decide
  | k + 1, h => by
    have := nb_lt (k := k) fun j hj => h j (by omega)
    have := h k (by omega)
    rw [nb, Nat.pow_succ]
    omega
/-- The reference's reading tells that number, or -1 from 2^63 on. -/
theorem rd_nb (p : Nat → Nat) (a : Nat) : ∀ k, k ≤ 8 → (∀ j, j < k → p (a + j) < 256) → rdN p a k = if nb (fun j => p (a + j)) k < 9223372036854775808 then (nb (fun j => p (a + j)) k : Int) else -1
  | 0, _, _ => by rw [rdN, nb]; rfl
  | k + 1, hk, hb => by
    have ih := rd_nb p a k (by omega) fun j hj => hb j (by omega)
    have h0 := nb_lt (p := fun j => p (a + j)) (k := k) fun j hj => hb j (by omega)
    have h1 : 256 ^ k ≤ 256 ^ 7 := Nat.pow_le_pow_right (by decide) (by omega)
    have h2 := hb k (by omega)
    have e7 : (256 : Nat) ^ 7 = 72057594037927936 := by decide
    rw [e7] at h1
    rw [if_pos (by omega)] at ih
    rw [rdN, ih, nb]
    by_cases h : nb (fun j => p (a + j)) k < 36028797018963968
    · rw [if_neg (by omega), if_pos (by omega)]
      omega
    · rw [if_pos (by omega), if_neg (by omega)]
/-- Is a number of k bytes wrong? -/
def low : Nat → Nat
  | 0 => 1128813134 | 1 => 1 | 6 => 320 | 9 => 1 | _ => 0
def high : Nat → Nat
  | 0 => 1128813134 | 1 => 1 | 2 => 8 | 3 => 256 | 4 => 4611686018427387903 | 5 => 4611686018427387904 | 6 => 320 | _ => 0
def flt : Nat → Nat
  | 0 => 60 | 1 => 61 | 2 => 62 | 3 => 63 | 4 => 62 | 5 => 62 | 6 => 64 | 7 => 0 | 8 => 65 | _ => 66
/-- The field's number. -/
def fnum (p : Nat → Nat) (f at' : Nat) : Nat := nb (fun j => p (at' + j)) (fsz f)
/-- The field's fault. -/
def bad (p : Nat → Nat) (f at' : Nat) : Nat :=
  if f = 7 then 0
  else if f = 8 then (if fnum p f at' = (adl p at').2 * 65536 + (adl p at').1 then 0 else 65)
  else if fnum p f at' < low f ∨ high f < fnum p f at' then flt f else 0
theorem nb4 (p : Nat → Nat) : nb p 4 = ((p 0 * 256 + p 1) * 256 + p 2) * 256 + p 3 := by simp only [nb]; omega
/-- The six fields of the header. -/
theorem bad_head {p : Nat → Nat} {f : Nat} (hf : f < 6) (hb : ∀ j, j < fsz f → p (startN f + j) < 256) : bad p f (startN f) = wrongN p f := by
  match f, hf, hb with
  | 0, _, hb =>
    have h0 := hb 0 (by decide)
    have h1 := hb 1 (by decide)
    have h2 := hb 2 (by decide)
    have h3 := hb 3 (by decide)
    simp only [startN, Nat.zero_add] at h0 h1 h2 h3
    unfold bad wrongN fnum
    rw [if_neg (by omega), if_neg (by omega)]
    show (if nb (fun j => p (0 + j)) 4 < 1128813134 ∨ 1128813134 < nb (fun j => p (0 + j)) 4 then 60 else 0) = _
    rw [nb4]
    simp only [Nat.zero_add]
    by_cases e : p 0 = 67 ∧ p 1 = 72 ∧ p 2 = 82 ∧ p 3 = 78
    · obtain ⟨a, b, c, d⟩ := e
      rw [if_neg (by rw [a, b, c, d]; omega), if_pos ⟨a, b, c, d⟩]
    · rw [if_pos (by omega), if_neg e]
  | 1, _, hb =>
    unfold bad fnum
    rw [if_neg (by omega), if_neg (by omega), show wrongN p 1 = if p 4 = 1 then 0 else 61 from rfl]
    show (if (0 * 256 + p (4 + 0)) < 1 ∨ 1 < (0 * 256 + p (4 + 0)) then 61 else 0) = _
    rw [Nat.add_zero]
    by_cases e : p 4 = 1
    · rw [if_neg (by omega), if_pos e]
    · rw [if_pos (by omega), if_neg e]
  | 2, _, hb =>
    unfold bad fnum
    rw [if_neg (by omega), if_neg (by omega), show wrongN p 2 = if p 5 ≤ 8 then 0 else 62 from rfl]
    show (if (0 * 256 + p (5 + 0)) < 0 ∨ 8 < (0 * 256 + p (5 + 0)) then 62 else 0) = _
    rw [Nat.add_zero]
    by_cases e : p 5 ≤ 8
    · rw [if_neg (by omega), if_pos e]
    · rw [if_pos (by omega), if_neg e]
  | 3, _, hb =>
    have lt := nb_lt (p := fun j => p (6 + j)) (k := 2) fun j hj => hb j hj
    have e := rd_nb p 6 2 (by omega) hb
    have e2 : (256 : Nat) ^ 2 = 65536 := by decide
    rw [e2] at lt
    rw [if_pos (by omega)] at e
    unfold bad fnum
    rw [if_neg (by omega), if_neg (by omega), show wrongN p 3 = if rdN p 6 2 ≤ 256 then 0 else 63 from rfl, e]
    show (if nb (fun j => p (6 + j)) 2 < 0 ∨ 256 < nb (fun j => p (6 + j)) 2 then 63 else 0) = _
    by_cases e : nb (fun j => p (6 + j)) 2 ≤ 256
    · rw [if_neg (by omega), if_pos (by omega)]
    · rw [if_pos (by omega), if_neg (by omega)]
  | 4, _, hb =>
    have e := rd_nb p 8 8 (by omega) hb
    unfold bad fnum
    rw [if_neg (by omega), if_neg (by omega), show wrongN p 4 = e60 (rdN p 8 8) from rfl, e]
    unfold e60
    show (if nb (fun j => p (8 + j)) 8 < 0 ∨ 4611686018427387903 < nb (fun j => p (8 + j)) 8 then 62 else 0) = _
    by_cases e : nb (fun j => p (8 + j)) 8 < 9223372036854775808
    · rw [if_pos e]
      by_cases e : nb (fun j => p (8 + j)) 8 ≤ 4611686018427387903
      · rw [if_neg (by omega), if_neg (by omega)]
      · rw [if_pos (by omega), if_pos (by omega)]
    · rw [if_neg e, if_pos (by omega), if_pos (by omega)]
  | 5, _, hb =>
    have e := rd_nb p 16 8 (by omega) hb
    unfold bad fnum
    rw [if_neg (by omega), if_neg (by omega), show wrongN p 5 = e61 (rdN p 16 8) from rfl, e]
    unfold e61
    show (if nb (fun j => p (16 + j)) 8 < 0 ∨ 4611686018427387904 < nb (fun j => p (16 + j)) 8 then 62 else 0) = _
    by_cases e : nb (fun j => p (16 + j)) 8 < 9223372036854775808
    · rw [if_pos e]
      by_cases e : nb (fun j => p (16 + j)) 8 ≤ 4611686018427387904
      · rw [if_neg (by omega), if_neg (by omega)]
      · rw [if_pos (by omega), if_pos (by omega)]
    · rw [if_neg e, if_pos (by omega), if_pos (by omega)]
/-- A cell's length. -/
theorem bad_len {p : Nat → Nat} {k : Nat} (hb : ∀ j, j < 2 → p (cellAt k + j) < 256) : bad p 6 (cellAt k) = if cellLen p k = 320 then 0 else 64 := by
  have lt := nb_lt (p := fun j => p (cellAt k + j)) (k := 2) fun j hj => hb j hj
  have e := rd_nb p (cellAt k) 2 (by omega) hb
  have e2 : (256 : Nat) ^ 2 = 65536 := by decide
  rw [e2] at lt
  rw [if_pos (by omega)] at e
  unfold bad fnum cellLen
  rw [if_neg (by omega), if_neg (by omega), e]
  show (if nb (fun j => p (cellAt k + j)) 2 < 320 ∨ 320 < nb (fun j => p (cellAt k + j)) 2 then 64 else 0) = _
  by_cases e : nb (fun j => p (cellAt k + j)) 2 = 320
  · rw [if_neg (by omega), if_pos (by omega)]
  · rw [if_pos (by omega), if_neg (by omega)]
theorem num_nb (p : Nat → Nat) : ∀ k, (∀ j, j < k → p j < 256) → ∀ j, j < k → numF (nb p k) k j = p j
  | 0, _, j, h => by omega
  | k + 1, hb, j, h => by
    have h0 := hb k (by omega)
    unfold numF
    by_cases e : j = k
    · rw [e, show k + 1 - 1 - k = 0 by omega, Nat.pow_zero, Nat.div_one, nb]
      omega
    · have ih := num_nb p k (fun j hj => hb j (by omega)) j (by omega)
      unfold numF at ih
      rw [show k + 1 - 1 - j = (k - 1 - j) + 1 by omega, Nat.pow_succ, Nat.mul_comm, ← Nat.div_div_eq_div_mul, nb, show (nb p k * 256 + p k) / 256 = nb p k by omega]
      exact ih
/-- The foot. -/
theorem bad_foot {p : Nat → Nat} {t : Nat} (hb : ∀ j, j < 4 → p (t + j) < 256) : ((∀ j, j < 4 → p (t + j) = footF p t j) → bad p 8 t = 0) ∧ ((¬ ∀ j, j < 4 → p (t + j) = footF p t j) → bad p 8 t = 65) := by
  have lt := nb_lt (p := fun j => p (t + j)) (k := 4) fun j hj => hb j hj
  have e2 : (256 : Nat) ^ 4 = 4294967296 := by decide
  rw [e2] at lt
  obtain ⟨la, lb⟩ := adl_lt p t
  have nn := num_nb (fun j => p (t + j)) 4 hb
  have u : bad p 8 t = if nb (fun j => p (t + j)) 4 = (adl p t).2 * 65536 + (adl p t).1 then 0 else 65 := rfl
  rw [u]
  constructor
  · intro h
    refine if_pos (numF4_inj lt (by omega) fun j hj => ?_)
    rw [nn j hj]
    exact h j hj
  · intro h
    refine if_neg fun e => h fun j hj => ?_
    unfold footF
    rw [← e]
    exact (nn j hj).symm
/-- The places: field f stands at at', behind k whole cells. -/
structure Pos (p : Nat → Nat) (f at' k : Nat) : Prop where
  lt : f ≤ 9
  head : ∀ g, g < f → g < 6 → wrongN p g = 0
  cells : ∀ i, i < k → cellLen p i = 320
  le : k ≤ nCells p
  zero : f < 6 → k = 0
  place : at' = if f < 6 then startN f else if f = 6 then cellAt k else if f = 7 then cellAt k + 2 else if f = 8 then cellAt k else cellAt k + 4
  more : 6 ≤ f → f ≤ 7 → k < nCells p
  len : f = 7 → cellLen p k = 320
  all : 8 ≤ f → k = nCells p
  foot : f = 9 → ∀ j, j < 4 → p (cellAt k + j) = footF p (cellAt k) j
theorem Pos.begin (p : Nat → Nat) : Pos p 0 0 0 :=
  ⟨by omega, fun g h => by omega, fun i h => by omega, Nat.zero_le _, fun _ => rfl, rfl, fun h => by omega, fun h => by omega, fun h => by omega, fun h => by omega⟩
theorem startN_step {f : Nat} (h : f < 6) : startN (f + 1) = startN f + fsz f := by
  match f, h with
  | 0, _ => rfl
  | 1, _ => rfl
  | 2, _ => rfl
  | 3, _ => rfl
  | 4, _ => rfl
  | 5, _ => rfl
theorem startN_mono {f g : Nat} (h : f ≤ g) (hg : g ≤ 6) : startN f ≤ startN g := by
  induction g with
  | zero => rw [show f = 0 by omega]; exact Nat.le_refl _
  | succ g ih =>
    by_cases e : f = g + 1
    · rw [e]; exact Nat.le_refl _
    · have := ih (by omega) (by omega)
      rw [startN_step (by omega)]
      omega
theorem Pos.low {p : Nat → Nat} {f at' k : Nat} (h : Pos p f at' k) (h6 : 6 ≤ f) : cellAt k ≤ at' := by
  have e := h.place
  rw [if_neg (by omega)] at e
  split at e
  · omega
  · split at e
    · omega
    · split at e <;> omega
theorem Pos.ok {p : Nat → Nat} {f at' k n : Nat} (h : Pos p f at' k) (h6 : 6 ≤ f) (hn : at' ≤ n) : headOk p n = true := by
  refine (headOk_iff p n).2 ⟨?_, fun g hg => h.head g (by omega) hg⟩
  have := h.low h6
  have := cellAt_ge k
  omega
theorem Pos.okC {p : Nat → Nat} {f at' k n : Nat} (h : Pos p f at' k) (h6 : 6 ≤ f) (hn : at' ≤ n) {i : Nat} (hi : i < k) : okC p n i = true := by
  unfold Frm.okC
  have := h.low h6
  have := cellAt_mono hi
  have := cellAt_succ i
  rw [decide_eq_true (by omega), decide_eq_true (h.cells i hi)]
  rfl
theorem Pos.past {p : Nat → Nat} {f at' k n : Nat} (h : Pos p f at' k) (h6 : f < 6) (hn : at' ≤ n) : ∀ g, g < f → startN (g + 1) ≤ n ∧ wrongN p g = 0 := fun g hg => ⟨by
  have e := h.place
  rw [if_pos h6] at e
  have := startN_mono (f := g + 1) (g := f) (by omega) (by omega)
  omega, h.head g hg (by omega)⟩
/-- What is told while the field isn't whole. -/
theorem Pos.short {p : Nat → Nat} {f at' k n : Nat} (h : Pos p f at' k) (h1 : at' ≤ n) (h2 : n < at' + fsz f) : jK p n = k ∧ jE p n = (if f = 9 then (0, 0) else (n, 67)) ∧ headOk p n = decide (6 ≤ f) := by
  by_cases h6 : f < 6
  · have e := h.place
    rw [if_pos h6] at e
    have hs : n < startN (f + 1) := by rw [startN_step h6]; omega
    have no := headOk_no p n f h6 (Or.inl hs)
    unfold jK jE
    rw [no, if_neg (by simp), if_neg (by simp), headE_short p n f h6 (h.past h6 h1) hs, if_neg (by omega), decide_eq_false (by omega)]
    exact ⟨(h.zero h6).symm, rfl, rfl⟩
  · have ok := h.ok (by omega) h1
    have e := h.place
    rw [if_neg h6] at e
    have stop : k < nCells p → Frm.okC p n k = false := by
      intro hk
      have h8 : f < 8 := by
        apply Classical.byContradiction
        intro q
        have := h.all (by omega)
        omega
      unfold Frm.okC
      rw [decide_eq_false]
      · rfl
      · rw [cellAt_succ]
        split at e
        · rename_i e6
          rw [e6] at h2
          simp only [fsz] at h2
          omega
        · rw [if_pos (by omega)] at e
          rw [show f = 7 by omega] at h2
          simp only [fsz] at h2
          omega
    have wk := wholeK_eq p n (nCells p) k h.le (fun i hi => h.okC (by omega) h1 hi) stop
    unfold jK jE
    rw [ok, if_pos rfl, if_pos rfl, wk, decide_eq_true (by omega)]
    refine ⟨rfl, ?_, rfl⟩
    unfold tailE
    by_cases h8 : f < 8
    · have hk := h.more (by omega) (by omega)
      rw [if_pos hk, if_neg (show ¬ f = 9 by omega), if_neg]
      intro ⟨a, b⟩
      by_cases e6 : f = 6
      · rw [if_pos e6] at e
        rw [e6] at h2
        simp only [fsz] at h2
        omega
      · exact b (h.len (by omega))
    · have hk := h.all (by omega)
      rw [if_neg (by omega), ← hk]
      rw [if_neg (by omega), if_neg (by omega)] at e
      by_cases e8 : f = 8
      · rw [if_pos e8] at e
        rw [e8] at h2
        simp only [fsz] at h2
        rw [if_pos (by omega), if_neg (by omega)]
      · rw [if_neg e8] at e
        have e9 : f = 9 := by have := h.lt; omega
        rw [e9] at h2
        simp only [fsz] at h2
        rw [if_neg (by omega), if_pos (h.foot e9), if_neg (by omega), if_pos e9]
/-- What is told where a whole field is wrong. -/
theorem Pos.fault {p : Nat → Nat} {f at' k n : Nat} (h : Pos p f at' k) (hb : ∀ j, j < n → p j < 256) (h1 : at' + fsz f ≤ n) (h2 : bad p f at' ≠ 0) : jK p n = k ∧ jE p n = (at', bad p f at') ∧ headOk p n = decide (6 ≤ f) := by
  by_cases h6 : f < 6
  · have e := h.place
    rw [if_pos h6] at e
    subst e
    have eb := bad_head (p := p) h6 fun j hj => hb _ (by omega)
    rw [eb] at h2 ⊢
    have no := headOk_no p n f h6 (Or.inr h2)
    unfold jK jE
    rw [no, if_neg (by simp), if_neg (by simp), headE_wrong p n f h6 (h.past h6 (by omega)) (by rw [startN_step h6]; exact h1) h2, decide_eq_false (by omega)]
    exact ⟨(h.zero h6).symm, rfl, rfl⟩
  · have ok := h.ok (n := n) (by omega) (by omega)
    have e := h.place
    rw [if_neg h6] at e
    have ne7 : f ≠ 7 := by
      intro e7
      apply h2
      unfold bad
      rw [if_pos e7]
    rw [if_neg ne7] at e
    by_cases e6 : f = 6
    · rw [if_pos e6] at e
      subst e6
      subst e
      have eb := bad_len (p := p) (k := k) fun j hj => hb _ (by simp only [fsz] at h1; omega)
      rw [eb] at h2 ⊢
      have hl : ¬ cellLen p k = 320 := fun q => h2 (if_pos q)
      rw [if_neg hl]
      simp only [fsz] at h1
      have stop : k < nCells p → Frm.okC p n k = false := by
        intro _
        unfold Frm.okC
        rw [decide_eq_false hl, Bool.and_false]
      have wk := wholeK_eq p n (nCells p) k h.le (fun i hi => h.okC (by omega) (by omega) hi) stop
      unfold jK jE
      rw [ok, if_pos rfl, if_pos rfl, wk]
      refine ⟨rfl, ?_, rfl⟩
      unfold tailE
      rw [if_pos (h.more (by omega) (by omega)), if_pos ⟨h1, hl⟩]
    · rw [if_neg e6] at e
      have hk := h.all (by omega)
      have wk := wholeK_eq p n (nCells p) k h.le (fun i hi => h.okC (by omega) (by omega) hi) (fun q => by omega)
      unfold jK jE
      rw [ok, if_pos rfl, if_pos rfl, wk, decide_eq_true (by omega)]
      refine ⟨rfl, ?_, rfl⟩
      unfold tailE
      rw [if_neg (by omega), ← hk]
      by_cases e8 : f = 8
      · rw [if_pos e8] at e
        subst e8
        subst e
        simp only [fsz] at h1
        have eb := bad_foot (p := p) (t := cellAt k) fun j hj => hb _ (by omega)
        have hf : ¬ ∀ j, j < 4 → p (cellAt k + j) = footF p (cellAt k) j := fun q => h2 (eb.1 q)
        rw [if_neg (by omega), if_neg hf, eb.2 hf]
      · rw [if_neg e8] at e
        have e9 : f = 9 := by have := h.lt; omega
        subst e9
        simp only [fsz] at h1
        rw [if_neg (by omega), if_pos (h.foot rfl), if_pos (by omega), e]
        congr 1
        unfold bad
        rw [if_neg (by omega), if_neg (by omega), if_pos (by show _ < 1 ∨ 0 < _; omega)]
        rfl
/-- The field behind. -/
def nextF (f left : Nat) : Nat := if f ≠ 5 ∧ f ≠ 7 then f + 1 else if 0 < left then 6 else 8
def nextK (f k : Nat) : Nat := if f = 7 then k + 1 else k
theorem Pos.step {p : Nat → Nat} {f at' k : Nat} (h : Pos p f at' k) (hb : ∀ j, j < at' + fsz f → p j < 256) (h2 : bad p f at' = 0) : Pos p (nextF f (nCells p - nextK f k)) (at' + fsz f) (nextK f k) := by
  have e := h.place
  by_cases h5 : f < 5
  · rw [if_pos (by omega)] at e
    have eb := bad_head (p := p) (f := f) (by omega) fun j hj => hb _ (by omega)
    rw [e, eb] at h2
    unfold nextF nextK
    rw [if_pos (by omega), if_neg (by omega)]
    refine ⟨by omega, fun g hg h6 => ?_, h.cells, h.le, fun _ => h.zero (by omega), ?_, fun q => by omega, fun q => by omega, fun q => by omega, fun q => by omega⟩
    · by_cases q : g = f
      · rw [q]; exact h2
      · exact h.head g (by omega) h6
    · rw [if_pos (by omega), startN_step (by omega), e]
  · by_cases e5 : f = 5
    · rw [if_pos (by omega)] at e
      have eb := bad_head (p := p) (f := f) (by omega) fun j hj => hb _ (by omega)
      rw [e, eb] at h2
      have k0 := h.zero (by omega)
      have c24 : at' + fsz f = cellAt 0 := by rw [e, e5]; rfl
      rw [c24]
      have hd : ∀ g, g < 6 → wrongN p g = 0 := fun g hg => by
        by_cases q : g = f
        · rw [q]; exact h2
        · exact h.head g (by omega) hg
      unfold nextF
      rw [if_neg (by omega), show nextK f k = 0 by unfold nextK; rw [if_neg (by omega), k0]]
      by_cases hc : 0 < nCells p - 0
      · rw [if_pos hc]
        exact ⟨by omega, fun g _ h6 => hd g h6, fun i hi => by omega, by omega, fun q => by omega, rfl, fun _ _ => by omega, fun q => by omega, fun q => by omega, fun q => by omega⟩
      · rw [if_neg hc]
        exact ⟨by omega, fun g _ h6 => hd g h6, fun i hi => by omega, by omega, fun q => by omega, rfl, fun _ _ => by omega, fun q => by omega, fun _ => by omega, fun q => by omega⟩
    · rw [if_neg (by omega)] at e
      by_cases e6 : f = 6
      · rw [if_pos e6] at e
        subst e6
        subst e
        have eb := bad_len (p := p) (k := k) fun j hj => hb _ (by simp only [fsz]; omega)
        rw [eb] at h2
        have hl : cellLen p k = 320 := Classical.byContradiction fun q => by rw [if_neg q] at h2; omega
        unfold nextF nextK
        rw [if_pos (by omega), if_neg (by omega)]
        exact ⟨by omega, fun g hg h6 => h.head g (by omega) h6, h.cells, h.le, fun q => by omega, rfl, fun _ _ => h.more (by omega) (by omega), fun _ => hl, fun q => by omega, fun q => by omega⟩
      · rw [if_neg e6] at e
        by_cases e7 : f = 7
        · rw [if_pos e7] at e
          have hm := h.more (by omega) (by omega)
          have ec : at' + fsz f = cellAt (k + 1) := by rw [e, e7, cellAt_succ]; simp only [fsz]
          rw [ec]
          have hc : ∀ i, i < k + 1 → cellLen p i = 320 := fun i hi => by
            by_cases q : i = k
            · rw [q]; exact h.len e7
            · exact h.cells i (by omega)
          unfold nextF
          rw [if_neg (by omega), show nextK f k = k + 1 from if_pos e7]
          by_cases hl : 0 < nCells p - (k + 1)
          · rw [if_pos hl]
            exact ⟨by omega, fun g hg h6 => h.head g (by omega) h6, hc, by omega, fun q => by omega, rfl, fun _ _ => by omega, fun q => by omega, fun q => by omega, fun q => by omega⟩
          · rw [if_neg hl]
            exact ⟨by omega, fun g hg h6 => h.head g (by omega) h6, hc, by omega, fun q => by omega, rfl, fun _ _ => by omega, fun q => by omega, fun _ => by omega, fun q => by omega⟩
        · rw [if_neg e7] at e
          have hk := h.all (by omega)
          by_cases e8 : f = 8
          · rw [if_pos e8] at e
            subst e8
            subst e
            have eb := bad_foot (p := p) (t := cellAt k) fun j hj => hb _ (by simp only [fsz]; omega)
            have hf : ∀ j, j < 4 → p (cellAt k + j) = footF p (cellAt k) j := Classical.byContradiction fun q => by rw [eb.2 q] at h2; omega
            unfold nextF nextK
            rw [if_pos (by omega), if_neg (by omega)]
            exact ⟨by omega, fun g hg h6 => h.head g (by omega) h6, h.cells, h.le, fun q => by omega, rfl, fun _ q => by omega, fun q => by omega, fun _ => hk, fun _ => hf⟩
          · have e9 : f = 9 := by have := h.lt; omega
            subst e9
            exfalso
            unfold bad at h2
            rw [if_neg (by omega), if_neg (by omega), if_pos (by show _ < 1 ∨ 0 < _; omega)] at h2
            exact absurd h2 (by decide)
end Go.Proofs.YtgklhjnojmpmlaaGreatDoor.Frm

namespace Go.Proofs.YtgklhjnojmpmlaaGreatDoor.Frm
open Go.RowKit Gf8 Aes By8 Cel
/- A Judged's cells; the reference's ended. -/

section
variable {P : Program} {o : Oper} {a : Act} {w : World}
/-- One cell stored into a row. -/
theorem execStV {ty : TypeId} {x y : Operand} {g k : Nat} {v : Value} {c c' : Array Value} {t : TypeId} (ho : o.op = .store ty x y) (hx : a.eval x = .pointer (some ⟨g, k, none⟩)) (hy : a.eval y = v) (hg : w.heap[g]? = some (.cells c t)) (hk : k < c.size) (hi : (P.info? ty).map (·.size) = some 1) (h1 : v.oneCell' = true) (hc : c.setIfInBounds k v = c') :
    (execOp a.eval o).run P w = .ok .skip (w.setRow g c') := by
  have hcs : v.cells = #[v] := by cases v <;> first | rfl | cases h1
  have this := run_storeCells_at P g k t [v] 0 c w hg (by simp; omega) (fun u hu => by rw [List.mem_singleton.1 hu]; exact h1)
  have e : (c.toList.take k ++ [v] ++ c.toList.drop (k + 1)).toArray = c' := by
    rw [← hc]
    apply Array.ext_getElem?
    intro i
    rw [Array.getElem?_setIfInBounds]
    have lk : (c.toList.take k).length = k := by simp; omega
    simp only [List.getElem?_toArray, List.append_assoc]
    rcases Nat.lt_trichotomy i k with h | h | h
    · rw [List.getElem?_append_left (by omega), List.getElem?_take, if_pos h, if_neg (by omega), Array.getElem?_toList]
    · subst h
      rw [List.getElem?_append_right (by omega), lk, Nat.sub_self, if_pos rfl, if_pos hk]
      rfl
    · rw [List.getElem?_append_right (by omega), lk, List.getElem?_append_right (by simp; omega), List.getElem?_drop, if_neg (by omega), Array.getElem?_toList]
      congr 1
      simp
      omega
  simp only [Nat.add_zero, List.length_singleton] at this
  rw [e] at this
  unfold execOp
  cases hq : P.info? ty with
  | none => simp [hq] at hi
  | some i =>
    have hs : i.size = 1 := by simp [hq] at hi; omega
    simp only [ho, hx, hy, Instr.storeAt, Instr.sureAddr, Sem.run_bind, Sem.run_pure, Result.andThen_ok]
    simp [storeVar, sizeOf, typeInfo, hq, hcs, hs, this]
end
end Go.Proofs.YtgklhjnojmpmlaaGreatDoor.Frm

namespace Go.Proofs.YtgklhjnojmpmlaaGreatDoor.Frm
open Go.RowKit Gf8 Aes By8 Cel
/- The program's frame: numbers and sums. -/

theorem ofInt_u64 {a : Nat} (ha : a < 18446744073709551616) : (BitVec.ofInt 64 (a : Int)).toNat = a := by
  rw [BitVec.ofInt_natCast, BitVec.toNat_ofNat]; exact Nat.mod_eq_of_lt (by omega)
theorem wrap_u64_nat {n : Nat} (h : n < 18446744073709551616) : IntKind.u64.wrap (n : Int) = n := by simp [IntKind.wrap, IntKind.bits, IntKind.signed]; omega
theorem or_u64 {a b : Nat} (ha : a < 18446744073709551616) (hb : b < 18446744073709551616) : bits .or .u64 (a : Int) (b : Int) = ((a ||| b : Nat) : Int) := by
  show IntKind.u64.wrap ((BitVec.ofInt 64 (a : Int) ||| BitVec.ofInt 64 (b : Int)).toNat : Int) = _
  rw [BitVec.toNat_or, ofInt_u64 ha, ofInt_u64 hb, wrap_u64_nat (Nat.or_lt_two_pow (n := 64) ha hb)]
theorem or_add8 (a b : Nat) (hb : b < 256) : a * 256 ||| b = a * 256 + b := by
  have := Nat.shiftLeft_add_eq_or_of_lt (i := 8) hb a
  rw [Nat.shiftLeft_eq] at this
  exact this.symm
theorem or_add16 (a b : Nat) (hb : b < 65536) : a * 65536 ||| b = a * 65536 + b := by
  have := Nat.shiftLeft_add_eq_or_of_lt (i := 16) hb a
  rw [Nat.shiftLeft_eq] at this
  exact this.symm
set_option maxRecDepth 20000 in
theorem pnumber_any (p : Nat → Nat) (len : Nat) (v : Value) (V : World) (hv : SliceN V v len p) (hl : len ≤ 8) :
    Calls Tryz.prog 88 #[v] V fun e w' => e = .returned (.int .u64 (nb p len : Nat)) ∧ w' = V := by
  obtain ⟨⟨ad, cap, rfl, hc1, hc2, hc3⟩, hp⟩ := hv
  have HC : Hid (0 < len → ∃ b off, ad = some ⟨b, off, none⟩ ∧ b < V.heap.size ∧ ∀ j, j < len → V.cell? ⟨b, off + j, none⟩ = some (.int .u8 (p j))) := hc3
  have HP : Hid (∀ j, j < len → p j < 256) := hp
  have HL : Hid (len ≤ 8) := hl
  have lb : (len : Int) ≤ 8 := by omega
  clear hc1 hc2 hc3 hl hp
  go_enter Tryz.func88, Tryz.ntmps88
  go_wp2_with fail
  go_loopw [3, 8] (fun x z W => ∃ i : Nat, i ≤ len ∧ x = .int .u64 (nb p i : Nat) ∧ z = .int .i64 i ∧ W = V) (fun _ z _ => len - (intOf z).toNat)
  case atStart => exact ⟨0, Nat.zero_le _, rfl, rfl, rfl⟩
  case round =>
    obtain ⟨i, hi, rfl, rfl, rfl⟩ := hrel
    by_cases hlt : i < len
    · have i1 : (i : Int) < len := by omega
      obtain ⟨b, off, rfl, _, hc⟩ := HC.out (by omega)
      have l3 := HP.out i hlt
      have l4 : nb p i < 256 ^ 7 := Nat.lt_of_lt_of_le (nb_lt fun j hj => HP.out j (by omega)) (Nat.pow_le_pow_right (by decide) (by have := HL.out; omega))
      have e7 : (256 : Nat) ^ 7 = 72057594037927936 := by decide
      rw [e7] at l4
      obtain ⟨c, hc0⟩ : ∃ c, p i = c := ⟨_, rfl⟩
      obtain ⟨A, hA⟩ : ∃ A, nb p i = A := ⟨_, rfl⟩
      have c1 : wr.cell? ⟨b, off + i, none⟩ = some (.int .u8 c) := by rw [hc i hlt, hc0]
      rw [hA] at l4
      rw [hc0] at l3
      rw [hA]
      have j1 : (A : Int) < 72057594037927936 := by omega
      have j3 : (c : Int) < 256 := by omega
      have HA : Hid (nb p (i + 1) = A * 256 + c) := by
        show nb p (i + 1) = _
        rw [nb, hA, hc0]
      have HK : Hid (i < len) := hlt
      have OR : bits .or .u64 ((A : Int) * 256) (c : Int) = ((A * 256 + c : Nat) : Int) := by
        have := or_u64 (a := A * 256) (b := c) (by omega) (by omega)
        rw [or_add8 _ _ l3] at this
        rw [← this]
        simp
      clear hc l3 l4 hc0 hA hlt hi e7
      go_wp2
      go_roundw
      case rel =>
        refine ⟨i + 1, HK.out, ?_, by go_num, by first | rfl | trivial⟩
        rw [HA.out]
        first | rw [OR] | go_num
      case measure => have := HK.out; simp [intOf]; omega
    · have ei : i = len := by omega
      subst ei
      have i1 : ¬ (i : Int) < i := by omega
      go_wp2
      go_ret
      exact ⟨rfl, rfl⟩
/-- The two sums as a value. -/
def smV (a b : Nat) : Value := .agg #[.int .u32 a, .int .u32 b]
set_option maxRecDepth 20000 in
theorem snumber_any (a b : Nat) (V : World) (ha : a < 65521) (hb : b < 65521) :
    Calls Tryz.prog 71 #[smV a b] V fun e w' => e = .returned (.int .u64 (b * 65536 + a : Nat)) ∧ Below V.heap.size V w' := by
  have j1 : (a : Int) < 65521 := by omega
  have j2 : (b : Int) < 65521 := by omega
  have OR : bits .or .u64 ((b : Int) * 65536) (a : Int) = ((b * 65536 + a : Nat) : Int) := by
    have := or_u64 (a := b * 65536) (b := a) (by omega) (by omega)
    rw [or_add16 _ _ (by omega)] at this
    rw [← this]
    simp
  unfold smV
  have HB : Hid (Below V.heap.size V (V.alloc (.cells #[.int .u32 a, .int .u32 b] 91))) := belNew _ _
  clear ha hb
  go_enter Tryz.func71, Tryz.ntmps71
  go_wp2
  go_ret
  refine ⟨?_, HB.out⟩
  first | rw [OR] | go_num
/-- Two sums in a row. -/
def sm2 (a b : Int) : Array Value := #[.int .u32 a, .int .u32 b]
theorem cell2 {W : World} {R : Nat} {a b : Int} {t : TypeId} (h : W.heap[R]? = some (.cells (sm2 a b) t)) : W.cell? ⟨R, 0, none⟩ = some (.int .u32 a) ∧ W.cell? ⟨R, 1, none⟩ = some (.int .u32 b) := by
  constructor
  · rw [cell_of_row _ _ _ _ _ _ h]; rfl
  · rw [cell_of_row _ _ _ _ _ _ h]; rfl
theorem zeroS : ∀ w, (zeroValue 91).run Tryz.prog w = .ok (.agg (sm2 0 0)) w := by
  intro w
  simp [go_sem, sm2]
theorem sizeS (a b : Int) : (Tryz.prog.info? 91).map (·.size) = some (sm2 a b).size := by
  show _ = some 2
  kernel_rfl
theorem sm2_one (a b : Int) : (sm2 a b).all (·.oneCell') = true := by simp [sm2, Value.oneCell']
set_option maxRecDepth 20000 in
set_option maxHeartbeats 400000 in
theorem nobytes_any (V : World) : Calls Tryz.prog 45 #[] V fun e w' => e = .returned (smV 1 0) ∧ Below V.heap.size V w' := by
  have z := zeroS
  go_enter Tryz.func45, Tryz.ntmps45
  go_wp2_with (first
    | (refine atStore 91 (.tmp 0) (.tmp 1) rfl ?_; go_must (refine wpList_store_row rfl 91 (.tmp 0) (.tmp 1) rfl V.heap.size (sm2 1 0) rfl rfl 91 _ (heapNew V _) (sizeS _ _) rfl (sm2_one _ _) ?_)))
  refine bodyPost_ret (v := smV 1 0) (results_cell_row Tryz.results45 _ _ V.heap.size 91 _ (0, 0) _ rfl (setRow_heap _ _ _ _ _ _ (heapNew V _)) Tryz.underlying91 rfl (sizeS _ _)) rfl ⟨rfl, below4 (belNew V _) (Nat.le_refl _) _⟩
/-- What stands in over: the sums in block R, the answer in block R + 1. -/
structure OvR (R : Nat) (a b : Int) (V W : World) : Prop where
  s : W.heap[R]? = some (.cells (sm2 a b) 91)
  r : ∃ c d, W.heap[R + 1]? = some (.cells (sm2 c d) 91)
  bel : Below R V W
theorem OvR.set {R : Nat} {a b : Int} {V W : World} (h : OvR R a b V W) (c d : Int) : OvR R c d V (W.setRow R (sm2 c d)) := by
  obtain ⟨x, y, hr⟩ := h.r
  exact ⟨setRow_heap _ _ _ _ _ _ h.s, ⟨x, y, by rw [setRow_other _ _ _ _ (by omega)]; exact hr⟩, below4 h.bel (Nat.le_refl _) _⟩
set_option maxRecDepth 20000 in
set_option maxHeartbeats 400000 in
theorem over_any (q : Nat → Nat) (t len : Nat) (v : Value) (V : World) (hv : SliceN V v len fun j => q (t + j)) (hl : len ≤ 140737488351232) :
    Calls Tryz.prog 73 #[smV (adl q t).1 (adl q t).2, v] V fun e w' => e = .returned (smV (adl q (t + len)).1 (adl q (t + len)).2) ∧ Below V.heap.size V w' := by
  obtain ⟨⟨ad, cap, rfl, hc1, hc2, hc3⟩, hp⟩ := hv
  have HC : Hid (0 < len → ∃ b off, ad = some ⟨b, off, none⟩ ∧ b < V.heap.size ∧ ∀ j, j < len → V.cell? ⟨b, off + j, none⟩ = some (.int .u8 (q (t + j)))) := hc3
  have HP : Hid (∀ j, j < len → q (t + j) < 256) := hp
  have HL : Hid (len ≤ 140737488351232) := hl
  have lb : (len : Int) ≤ 140737488351232 := by omega
  have z := zeroS
  obtain ⟨R, hR⟩ : ∃ R, V.heap.size = R := ⟨_, rfl⟩
  obtain ⟨W0, hW⟩ : ∃ W0, (V.alloc (.cells (sm2 (adl q t).1 (adl q t).2) 91)).alloc (.cells (sm2 0 0) 91) = W0 := ⟨_, rfl⟩
  have O0 : Hid (OvR R (adl q t).1 (adl q t).2 V W0) := by
    have h := heap2c V (.cells (sm2 (adl q t).1 (adl q t).2) 91) (.cells (sm2 0 0) 91)
    rw [hW, hR] at h
    refine ⟨h.1, ⟨_, _, h.2⟩, ?_⟩
    rw [← hW, ← hR]
    exact below2c _ _ _
  have HW : Hid ((V.alloc (.cells #[.int .u32 (adl q t).1, .int .u32 (adl q t).2] 91)).alloc (.cells (sm2 0 0) 91) = W0) := hW
  clear hc1 hc2 hc3 hl hp hW
  unfold smV
  go_enter Tryz.func73, Tryz.ntmps73
  go_wp2_with fail
  rw [HW.out]
  try simp only [hR]
  have HR : Hid (V.heap.size = R) := hR
  clear hR z HW
  go_loopw [9] (fun z W => ∃ i : Nat, i ≤ len ∧ z = .int .i64 i ∧ OvR R (adl q (t + i)).1 (adl q (t + i)).2 V W) (fun z _ => len - (intOf z).toNat)
  case atStart => exact ⟨0, Nat.zero_le _, rfl, O0.out⟩
  case round =>
    obtain ⟨i, hi, rfl, ov⟩ := hrel
    clear O0
    by_cases hlt : i < len
    · have i1 : (i : Int) < len := by omega
      obtain ⟨b, off, rfl, hbs, hc⟩ := HC.out (by omega)
      obtain ⟨l1, l2⟩ := adl_lt q (t + i)
      have l3 := HP.out i hlt
      obtain ⟨c, hc0⟩ : ∃ c, q (t + i) = c := ⟨_, rfl⟩
      obtain ⟨A, hA⟩ : ∃ A, (adl q (t + i)).1 = A := ⟨_, rfl⟩
      obtain ⟨B, hB⟩ : ∃ B, (adl q (t + i)).2 = B := ⟨_, rfl⟩
      have c1 : wr.cell? ⟨b, off + i, none⟩ = some (.int .u8 c) := by
        rw [cell_below ov.bel (by have := HR.out; omega), hc i hlt, hc0]
      rw [hA] at l1 ov
      rw [hB] at l2 ov
      rw [hc0] at l3
      have j1 : (A : Int) < 65521 := by omega
      have j2 : (B : Int) < 65521 := by omega
      have j3 : (c : Int) < 256 := by omega
      have HA : Hid (adl q (t + (i + 1)) = ((A + c) % 65521, (B + (A + c) % 65521) % 65521)) := by
        show adl q (t + (i + 1)) = _
        rw [← Nat.add_assoc, adl, hA, hB, hc0]
      have HK : Hid (i < len) := hlt
      have OV : Hid (OvR R A B V wr) := ov
      obtain ⟨k0, k1⟩ := cell2 ov.s
      have k2 : ∀ x : Int, (wr.setRow R (sm2 x B)).cell? ⟨R, 0, none⟩ = some (.int .u32 x) := fun x => (cell2 (ov.set x B).s).1
      have k3 : ∀ x : Int, (wr.setRow R (sm2 x B)).cell? ⟨R, 1, none⟩ = some (.int .u32 B) := fun x => (cell2 (ov.set x B).s).2
      clear hc l1 l2 l3 hc0 hA hB hlt hi ov hbs
      go_wp2_with (first
        | (refine atStore 89 (.tmp 19) (.tmp 18) rfl ?_; go_must (refine wpList_exS rfl (execStV (c' := sm2 _ _) rfl rfl rfl OV.out.s (by show 0 < 2; decide) (by kernel_rfl) rfl rfl) ?_))
        | (refine atStore 89 (.tmp 26) (.tmp 25) rfl ?_; go_must (refine wpList_exS rfl (execStV (c' := sm2 _ _) rfl rfl rfl (OV.out.set _ _).s (by show 1 < 2; decide) (by kernel_rfl) rfl rfl) ?_)))
      go_roundw
      case rel =>
        refine ⟨i + 1, HK.out, by go_num, ?_⟩
        rw [HA.out]
        have := (OV.out.set (((A : Int) + c) % 65521) B).set (((A : Int) + c) % 65521) (((B : Int) + ((A : Int) + c)) % 65521)
        have e1 : (((A + c) % 65521 : Nat) : Int) = ((A : Int) + c) % 65521 := by omega
        have e2 : (((B + (A + c) % 65521) % 65521 : Nat) : Int) = ((B : Int) + ((A : Int) + c)) % 65521 := by omega
        show OvR R (((A + c) % 65521 : Nat) : Int) (((B + (A + c) % 65521) % 65521 : Nat) : Int) V _
        rw [e1, e2]
        exact this
      case measure => have := HK.out; simp [intOf]; omega
    · have ei : i = len := by omega
      subst ei
      have i1 : ¬ (i : Int) < i := by omega
      have OV : Hid (OvR R (adl q (t + i)).1 (adl q (t + i)).2 V wr) := ov
      obtain ⟨x, y, hr⟩ := ov.r
      have RR : Hid (wr.heap[R + 1]? = some (.cells (sm2 x y) 91)) := hr
      clear hr ov
      go_wp2_with (first
        | (refine atLoad 91 (.tmp 2) rfl ?_; go_must (refine wpList_load_row rfl 91 (.tmp 2) rfl R rfl 91 _ (0, 0) _ OV.out.s Tryz.underlying91 rfl (sizeS _ _) ?_; simp only [Act.put, List.setIfInBounds_toArray, List.set_cons_succ, List.set_cons_zero]))
        | (refine atStore 91 (.tmp 4) (.tmp 28) rfl ?_; go_must (refine wpList_store_row rfl 91 (.tmp 4) (.tmp 28) rfl (R + 1) _ rfl rfl 91 _ RR.out (sizeS _ _) rfl (sm2_one _ _) ?_)))
      refine bodyPost_ret (v := smV (adl q (t + i)).1 (adl q (t + i)).2) (results_cell_row Tryz.results73 _ _ (R + 1) 91 _ (0, 0) _ rfl (setRow_heap _ _ _ _ _ _ RR.out) Tryz.underlying91 rfl (sizeS _ _)) rfl ⟨rfl, ?_⟩
      rw [HR.out]
      exact below4 OV.out.bel (by omega) _
end Go.Proofs.YtgklhjnojmpmlaaGreatDoor.Frm
