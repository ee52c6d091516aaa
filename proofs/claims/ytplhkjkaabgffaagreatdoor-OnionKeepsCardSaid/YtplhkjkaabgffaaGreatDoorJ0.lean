import Derived.Test.YtplhkjkaabgffaaGreatDoorR1
namespace Go.Proofs.YtplhkjkaabgffaaGreatDoor.Aes
open Gf8
/- AES-128 over Nat: pure, it names nothing of a program. A block is a function of the places 0 .. 15. -/

/-- The round's constant: x's power. -/
def rcon : Nat → Nat
  | 0 => 1
  | n + 1 => xt (rcon n)
theorem rcon_lt (n : Nat) : rcon n < 256 := by
  induction n with
  | zero => exact (by decide : (1 : Nat) < 256)
  | succ n ih => exact xt_lt ih
/-- The bytes of the round keys. -/
def kwG (key : Nat → Nat) : Nat → Nat → Nat
  | 0, _ => 0
  | f + 1, i => if i < 16 then key i else kwG key f (i - 16) ^^^ (if i % 16 < 4 then gsub (kwG key f (i / 4 * 4 - 4 + (i + 1) % 4)) ^^^ (if i % 16 = 0 then rcon (i / 16 - 1) else 0) else kwG key f (i - 4))
def kw (key : Nat → Nat) (i : Nat) : Nat := kwG key (i + 1) i
theorem kwG_eq (key : Nat → Nat) (f : Nat) : ∀ g i, i < f → i < g → kwG key f i = kwG key g i := by
  induction f with
  | zero => exact fun g i h => absurd h (Nat.not_lt_zero i)
  | succ f ih =>
    intro g i h1 h2
    cases g with
    | zero => exact absurd h2 (Nat.not_lt_zero i)
    | succ g =>
      by_cases h : i < 16
      · rw [kwG, kwG, if_pos h, if_pos h]
      · rw [kwG, kwG, if_neg h, if_neg h, ih g (i - 16) (by omega) (by omega)]
        by_cases h4 : i % 16 < 4
        · rw [if_pos h4, if_pos h4, ih g (i / 4 * 4 - 4 + (i + 1) % 4) (by omega) (by omega)]
        · rw [if_neg h4, if_neg h4, ih g (i - 4) (by omega) (by omega)]
theorem kw_low (key : Nat → Nat) {i : Nat} (h : i < 16) : kw key i = key i := by rw [kw, kwG, if_pos h]
theorem kw_turn (key : Nat → Nat) {i : Nat} (h : 16 ≤ i) (h4 : i % 16 < 4) : kw key i = kw key (i - 16) ^^^ (gsub (kw key (i / 4 * 4 - 4 + (i + 1) % 4)) ^^^ (if i % 16 = 0 then rcon (i / 16 - 1) else 0)) := by
  rw [kw, kwG, if_neg (by omega), if_pos h4, kwG_eq key i (i - 16 + 1) (i - 16) (by omega) (by omega), kwG_eq key i (i / 4 * 4 - 4 + (i + 1) % 4 + 1) (i / 4 * 4 - 4 + (i + 1) % 4) (by omega) (by omega)]
  rfl
theorem kw_plain (key : Nat → Nat) {i : Nat} (h : 16 ≤ i) (h4 : ¬ i % 16 < 4) : kw key i = kw key (i - 16) ^^^ kw key (i - 4) := by
  rw [kw, kwG, if_neg (by omega), if_neg h4, kwG_eq key i (i - 16 + 1) (i - 16) (by omega) (by omega), kwG_eq key i (i - 4 + 1) (i - 4) (by omega) (by omega)]
  rfl
theorem gsub_lt {a : Nat} (ha : a < 256) : gsub a < 256 := (sub_all ⟨a, ha⟩).1
theorem guns_lt {a : Nat} (ha : a < 256) : guns a < 256 := (sub_all ⟨a, ha⟩).2.1
theorem uns_sub {a : Nat} (ha : a < 256) : guns (gsub a) = a := (sub_all ⟨a, ha⟩).2.2.1
theorem sub_uns {a : Nat} (ha : a < 256) : gsub (guns a) = a := (sub_all ⟨a, ha⟩).2.2.2.1
theorem kw_lt {key : Nat → Nat} (hk : ∀ i, i < 16 → key i < 256) : ∀ i, kw key i < 256 := by
  intro i
  induction i using Nat.strongRecOn with
  | ind i ih =>
    by_cases h : i < 16
    · rw [kw_low key h]; exact hk i h
    · by_cases h4 : i % 16 < 4
      · rw [kw_turn key (by omega) h4]
        refine xor_lt (ih _ (by omega)) (xor_lt (gsub_lt (ih _ (by omega))) ?_)
        split
        · exact rcon_lt _
        · omega
      · rw [kw_plain key (by omega) h4]
        exact xor_lt (ih _ (by omega)) (ih _ (by omega))

/-- Round key number i laid over a block. -/
def addR (w b : Nat → Nat) (i : Nat) : Nat → Nat := fun j => b j ^^^ w (16 * i + j)
/-- Each byte substituted, each row turned to the left. -/
def subS (b : Nat → Nat) : Nat → Nat := fun j => gsub (b ((j + 4 * (j % 4)) % 16))
/-- The way back. -/
def unsS (b : Nat → Nat) : Nat → Nat := fun j => guns (b ((j + 12 * (j % 4)) % 16))
/-- The columns mixed, and the way back. -/
def mixB (f b : Nat → Nat) : Nat → Nat := fun j => mixk f (fun r => b (j / 4 * 4 + r)) (j % 4)
/-- What lies behind i rounds of encrypting. -/
def encN (w b : Nat → Nat) : Nat → (Nat → Nat)
  | 0 => addR w b 0
  | i + 1 => addR w (if i + 1 < 10 then mixB fwd (subS (encN w b i)) else subS (encN w b i)) (i + 1)
def enc (w b : Nat → Nat) : Nat → Nat := encN w b 10
/-- What lies behind i rounds of decrypting. -/
def decN (w b : Nat → Nat) : Nat → (Nat → Nat)
  | 0 => addR w b 10
  | i + 1 => if i + 1 < 10 then mixB bwd (addR w (unsS (decN w b i)) (9 - i)) else addR w (unsS (decN w b i)) (9 - i)
def dec (w b : Nat → Nat) : Nat → Nat := decN w b 10

theorem encN_mid (w b : Nat → Nat) {i : Nat} (h : i + 1 < 10) : encN w b (i + 1) = addR w (mixB fwd (subS (encN w b i))) (i + 1) := by
  show addR w (if i + 1 < 10 then mixB fwd (subS (encN w b i)) else subS (encN w b i)) (i + 1) = _
  rw [if_pos h]
theorem encN_last (w b : Nat → Nat) : encN w b 10 = addR w (subS (encN w b 9)) 10 := rfl
theorem decN_mid (w b : Nat → Nat) {i : Nat} (h : i + 1 < 10) : decN w b (i + 1) = mixB bwd (addR w (unsS (decN w b i)) (9 - i)) := by
  show (if i + 1 < 10 then mixB bwd (addR w (unsS (decN w b i)) (9 - i)) else addR w (unsS (decN w b i)) (9 - i)) = _
  rw [if_pos h]
theorem decN_last (w b : Nat → Nat) : decN w b 10 = addR w (unsS (decN w b 9)) 0 := rfl
/-- Two blocks are one. -/
def Eq16 (a b : Nat → Nat) : Prop := ∀ j, j < 16 → a j = b j
/-- All bytes. -/
def By (b : Nat → Nat) : Prop := ∀ j, j < 16 → b j < 256
theorem Eq16.refl (a : Nat → Nat) : Eq16 a a := fun _ _ => rfl
theorem Eq16.trans {a b c : Nat → Nat} (h : Eq16 a b) (g : Eq16 b c) : Eq16 a c := fun j hj => (h j hj).trans (g j hj)
theorem Eq16.symm {a b : Nat → Nat} (h : Eq16 a b) : Eq16 b a := fun j hj => (h j hj).symm
theorem addR_congr {w a b : Nat → Nat} (h : Eq16 a b) (i : Nat) : Eq16 (addR w a i) (addR w b i) := fun j hj => by unfold addR; rw [h j hj]
theorem subS_congr {a b : Nat → Nat} (h : Eq16 a b) : Eq16 (subS a) (subS b) := fun j _ => by unfold subS; rw [h _ (Nat.mod_lt _ (by omega))]
theorem unsS_congr {a b : Nat → Nat} (h : Eq16 a b) : Eq16 (unsS a) (unsS b) := fun j _ => by unfold unsS; rw [h _ (Nat.mod_lt _ (by omega))]
theorem mixB_congr {f a b : Nat → Nat} (h : Eq16 a b) : Eq16 (mixB f a) (mixB f b) := fun j hj => by
  unfold mixB
  exact mixk_congr (fun r hr => h _ (by omega)) _
theorem addR_by {w b : Nat → Nat} (hw : ∀ i, i < 176 → w i < 256) (hb : By b) {i : Nat} (hi : i < 11) : By (addR w b i) := fun j hj => xor_lt (hb j hj) (hw _ (by omega))
theorem subS_by {b : Nat → Nat} (hb : By b) : By (subS b) := fun j _ => gsub_lt (hb _ (Nat.mod_lt _ (by omega)))
theorem unsS_by {b : Nat → Nat} (hb : By b) : By (unsS b) := fun j _ => guns_lt (hb _ (Nat.mod_lt _ (by omega)))
theorem fwd_by : ∀ i, i < 4 → fwd i < 256 := by
  intro i hi
  have : i = 0 ∨ i = 1 ∨ i = 2 ∨ i = 3 := by omega
  rcases this with rfl | rfl | rfl | rfl <;> decide
theorem bwd_by : ∀ i, i < 4 → bwd i < 256 := by
  intro i hi
  have : i = 0 ∨ i = 1 ∨ i = 2 ∨ i = 3 := by omega
  rcases this with rfl | rfl | rfl | rfl <;> decide
theorem mixF_by (b : Nat → Nat) : By (mixB fwd b) := fun _ _ => mixk_lt fwd_by _ _
theorem mixU_by (b : Nat → Nat) : By (mixB bwd b) := fun _ _ => mixk_lt bwd_by _ _
theorem addR_twice (w b : Nat → Nat) (i : Nat) : Eq16 (addR w (addR w b i) i) b := fun j _ => by
  unfold addR
  rw [Nat.xor_assoc, Nat.xor_self, Nat.xor_zero]
theorem uns_subS {b : Nat → Nat} (hb : By b) : Eq16 (unsS (subS b)) b := fun j hj => by
  unfold unsS subS
  have e : ((j + 12 * (j % 4)) % 16 + 4 * ((j + 12 * (j % 4)) % 16 % 4)) % 16 = j := by omega
  rw [e, uns_sub (hb j hj)]
theorem sub_unsS {b : Nat → Nat} (hb : By b) : Eq16 (subS (unsS b)) b := fun j hj => by
  show gsub (guns (b (((j + 4 * (j % 4)) % 16 + 12 * ((j + 4 * (j % 4)) % 16 % 4)) % 16))) = b j
  have e : ((j + 4 * (j % 4)) % 16 + 12 * ((j + 4 * (j % 4)) % 16 % 4)) % 16 = j := by omega
  rw [e, sub_uns (hb j hj)]
theorem mixB_at (f b : Nat → Nat) (j r : Nat) (hr : r < 4) : mixB f b (j / 4 * 4 + r) = mixk f (fun s => b (j / 4 * 4 + s)) r := by
  unfold mixB
  have e1 : (j / 4 * 4 + r) / 4 = j / 4 := by omega
  have e2 : (j / 4 * 4 + r) % 4 = r := by omega
  rw [e1, e2]
theorem mix_backB {b : Nat → Nat} (hb : By b) : Eq16 (mixB bwd (mixB fwd b)) b := fun j hj => by
  show mixk bwd (fun r => mixB fwd b (j / 4 * 4 + r)) (j % 4) = b j
  rw [mixk_congr (d := mixk fwd (fun s => b (j / 4 * 4 + s))) (fun r hr => mixB_at fwd b j r hr), mix_back (fun r hr => hb _ (by omega)) (Nat.mod_lt _ (by omega))]
  congr 1
  omega
theorem mix_forthB {b : Nat → Nat} (hb : By b) : Eq16 (mixB fwd (mixB bwd b)) b := fun j hj => by
  show mixk fwd (fun r => mixB bwd b (j / 4 * 4 + r)) (j % 4) = b j
  rw [mixk_congr (d := mixk bwd (fun s => b (j / 4 * 4 + s))) (fun r hr => mixB_at bwd b j r hr), mix_forth (fun r hr => hb _ (by omega)) (Nat.mod_lt _ (by omega))]
  congr 1
  omega

theorem encN_by {w b : Nat → Nat} (hw : ∀ i, i < 176 → w i < 256) (hb : By b) : ∀ i, i ≤ 10 → By (encN w b i)
  | 0, _ => addR_by hw hb (by omega)
  | i + 1, h => by
    show By (addR w _ (i + 1))
    refine addR_by hw ?_ (by omega)
    split
    · exact mixF_by _
    · exact subS_by (encN_by hw hb i (by omega))
theorem decN_by {w b : Nat → Nat} (hw : ∀ i, i < 176 → w i < 256) (hb : By b) : ∀ i, i ≤ 10 → By (decN w b i)
  | 0, _ => addR_by hw hb (by omega)
  | i + 1, h => by
    show By (if i + 1 < 10 then mixB bwd (addR w (unsS (decN w b i)) (9 - i)) else addR w (unsS (decN w b i)) (9 - i))
    split
    · exact mixU_by _
    · exact addR_by hw (unsS_by (decN_by hw hb i (by omega))) (by omega)
theorem encN_congr {w a b : Nat → Nat} (h : Eq16 a b) : ∀ i, Eq16 (encN w a i) (encN w b i)
  | 0 => addR_congr h 0
  | i + 1 => by
    show Eq16 (addR w _ (i + 1)) (addR w _ (i + 1))
    refine addR_congr ?_ _
    split
    · exact mixB_congr (subS_congr (encN_congr h i))
    · exact subS_congr (encN_congr h i)
theorem decN_congr {w a b : Nat → Nat} (h : Eq16 a b) : ∀ i, Eq16 (decN w a i) (decN w b i)
  | 0 => addR_congr h 10
  | i + 1 => by
    show Eq16 (if i + 1 < 10 then mixB bwd (addR w (unsS (decN w a i)) (9 - i)) else addR w (unsS (decN w a i)) (9 - i)) (if i + 1 < 10 then mixB bwd (addR w (unsS (decN w b i)) (9 - i)) else addR w (unsS (decN w b i)) (9 - i))
    split
    · exact mixB_congr (addR_congr (unsS_congr (decN_congr h i)) _)
    · exact addR_congr (unsS_congr (decN_congr h i)) _
theorem wkeys_congr {w v b : Nat → Nat} (h : ∀ i, i < 176 → w i = v i) {i : Nat} (hi : i < 11) : Eq16 (addR w b i) (addR v b i) := fun j hj => by unfold addR; rw [h _ (by omega)]
theorem encN_keys {w v b : Nat → Nat} (h : ∀ i, i < 176 → w i = v i) : ∀ i, i ≤ 10 → Eq16 (encN w b i) (encN v b i)
  | 0, _ => wkeys_congr h (by omega)
  | i + 1, hi => by
    show Eq16 (addR w _ (i + 1)) (addR v _ (i + 1))
    refine Eq16.trans (wkeys_congr h (by omega)) (addR_congr ?_ _)
    split
    · exact mixB_congr (subS_congr (encN_keys h i (by omega)))
    · exact subS_congr (encN_keys h i (by omega))

/-- Decrypting what was encrypted: behind i rounds it is what encrypting had ahead of its last i + 1 round keys. -/
theorem dec_enc_step {w b : Nat → Nat} (hw : ∀ i, i < 176 → w i < 256) (hb : By b) : ∀ i, i ≤ 9 → Eq16 (decN w (enc w b) i) (subS (encN w b (9 - i)))
  | 0, _ => by
    show Eq16 (addR w (addR w (subS (encN w b 9)) 10) 10) _
    exact addR_twice w _ 10
  | i + 1, h => by
    have ih := dec_enc_step hw hb i (by omega)
    have hB := encN_by hw hb (9 - i) (by omega)
    rw [decN_mid _ _ (by omega)]
    have e1 : Eq16 (unsS (decN w (enc w b) i)) (encN w b (9 - i)) := (unsS_congr ih).trans (uns_subS hB)
    obtain ⟨m, hm⟩ : ∃ m, 9 - i = m + 1 := ⟨8 - i, by omega⟩
    have e2 : Eq16 (addR w (encN w b (9 - i)) (9 - i)) (mixB fwd (subS (encN w b m))) := by
      rw [hm, encN_mid _ _ (by omega)]
      exact addR_twice w _ _
    have e3 : 9 - (i + 1) = m := by omega
    rw [e3]
    exact (mixB_congr ((addR_congr e1 _).trans e2)).trans (mix_backB (subS_by (encN_by hw hb m (by omega))))
theorem dec_enc {w b : Nat → Nat} (hw : ∀ i, i < 176 → w i < 256) (hb : By b) : Eq16 (dec w (enc w b)) b := by
  have h := dec_enc_step hw hb 9 (Nat.le_refl _)
  unfold dec
  rw [decN_last]
  have e1 : Eq16 (unsS (decN w (enc w b) 9)) (encN w b 0) := (unsS_congr h).trans (uns_subS (encN_by hw hb 0 (by omega)))
  exact (addR_congr e1 0).trans (addR_twice w b 0)
/-- Encrypting what was decrypted. -/
theorem enc_dec_step {w b : Nat → Nat} (hw : ∀ i, i < 176 → w i < 256) (hb : By b) : ∀ i, i ≤ 9 → Eq16 (encN w (dec w b) i) (unsS (decN w b (9 - i)))
  | 0, _ => by
    show Eq16 (addR w (addR w (unsS (decN w b 9)) 0) 0) _
    exact addR_twice w _ 0
  | i + 1, h => by
    have ih := enc_dec_step hw hb i (by omega)
    have hB := decN_by hw hb (9 - i) (by omega)
    rw [encN_mid _ _ (by omega)]
    have e1 : Eq16 (subS (encN w (dec w b) i)) (decN w b (9 - i)) := (subS_congr ih).trans (sub_unsS hB)
    obtain ⟨m, hm⟩ : ∃ m, 9 - i = m + 1 := ⟨8 - i, by omega⟩
    have e2 : Eq16 (mixB fwd (decN w b (9 - i))) (addR w (unsS (decN w b m)) (i + 1)) := by
      rw [hm, decN_mid _ _ (by omega), show 9 - m = i + 1 by omega]
      exact mix_forthB (addR_by hw (unsS_by (decN_by hw hb m (by omega))) (by omega))
    have e3 : 9 - (i + 1) = m := by omega
    rw [e3]
    exact (addR_congr ((mixB_congr e1).trans e2) _).trans (addR_twice w _ _)
theorem enc_dec {w b : Nat → Nat} (hw : ∀ i, i < 176 → w i < 256) (hb : By b) : Eq16 (enc w (dec w b)) b := by
  have h := enc_dec_step hw hb 9 (Nat.le_refl _)
  unfold enc
  rw [encN_last]
  have e1 : Eq16 (subS (encN w (dec w b) 9)) (decN w b 0) := (subS_congr h).trans (sub_unsS (decN_by hw hb 0 (by omega)))
  exact (addR_congr e1 10).trans (addR_twice w b 10)
theorem enc_by {w b : Nat → Nat} (hw : ∀ i, i < 176 → w i < 256) (hb : By b) : By (enc w b) := encN_by hw hb 10 (Nat.le_refl _)
theorem dec_by {w b : Nat → Nat} (hw : ∀ i, i < 176 → w i < 256) (hb : By b) : By (dec w b) := decN_by hw hb 10 (Nat.le_refl _)

/-- Mixing three times more goes back. -/
theorem base_three : ∀ i : Fin 8, ∀ j : Fin 4, ∀ k : Fin 4, mixk fwd (mixk fwd (mixk fwd (Gf8.lone j.val (2 ^ i.val)))) k.val = mixk bwd (Gf8.lone j.val (2 ^ i.val)) k.val := by decide +kernel
def three (c : Nat → Nat) : Nat → Nat := mixk fwd (mixk fwd (mixk fwd c))
theorem three_congr {c d : Nat → Nat} (h : ∀ i, i < 4 → c i = d i) (k : Nat) : three c k = three d k :=
  mixk_congr (fun i _ => mixk_congr (fun i _ => mixk_congr h i) i) k
theorem three_xor (c d : Nat → Nat) (k : Nat) : three (fun i => c i ^^^ d i) k = three c k ^^^ three d k := by
  unfold three
  rw [← mixk_xor]
  refine mixk_congr (fun i _ => ?_) k
  rw [← mixk_xor]
  exact mixk_congr (fun i _ => mixk_xor fwd c d i) i
theorem three_lone {x : Nat} (hx : x < 256) (j k : Nat) (hj : j < 4) (hk : k < 4) : three (Gf8.lone j x) k = mixk bwd (Gf8.lone j x) k := by
  refine basis (P := fun x => three (Gf8.lone j x) k = mixk bwd (Gf8.lone j x) k) ?_ ?_ ?_ x hx
  · rw [mixk_zero bwd (fun i _ => lone_zero j i) k]
    exact mixk_zero fwd (fun i _ => mixk_zero fwd (fun i _ => mixk_zero fwd (fun i _ => lone_zero j i) i) i) k
  · intro i; exact base_three i ⟨j, hj⟩ ⟨k, hk⟩
  · intro a b _ _ ha hb
    rw [three_congr (d := fun i => Gf8.lone j a i ^^^ Gf8.lone j b i) (fun i _ => lone_xor j a b i) k, three_xor, ha, hb, ← mixk_xor]
    exact (mixk_congr (fun i _ => lone_xor j a b i) k).symm
theorem three_back {c : Nat → Nat} (hc : ∀ i, i < 4 → c i < 256) {k : Nat} (hk : k < 4) : three c k = mixk bwd c k := by
  rw [three_congr (lone_sum c) k, three_xor, three_xor, three_xor, mixk_congr (f := bwd) (lone_sum c) k, mixk_xor, mixk_xor, mixk_xor]
  rw [three_lone (hc 0 (by omega)) 0 k (by omega) hk, three_lone (hc 1 (by omega)) 1 k (by omega) hk, three_lone (hc 2 (by omega)) 2 k (by omega) hk, three_lone (hc 3 (by omega)) 3 k (by omega) hk]
theorem three_backB {b : Nat → Nat} (hb : By b) : Eq16 (mixB fwd (mixB fwd (mixB fwd b))) (mixB bwd b) := fun j hj => by
  have hr := Nat.mod_lt j (show 4 > 0 by omega)
  have e : mixB fwd (mixB fwd (mixB fwd b)) j = three (fun s => b (j / 4 * 4 + s)) (j % 4) := by
    show mixk fwd (fun r => mixB fwd (mixB fwd b) (j / 4 * 4 + r)) (j % 4) = _
    refine mixk_congr (fun r hr => ?_) _
    show mixB fwd (mixB fwd b) (j / 4 * 4 + r) = _
    rw [mixB_at fwd (mixB fwd b) j r hr]
    exact mixk_congr (fun s hs => mixB_at fwd b j s hs) r
  rw [e, three_back (fun r hr => hb _ (by omega)) hr]
  rfl

/-- A block as one number, big-endian, and back. -/
def be (n : Nat) : Nat → Nat := fun j => n / 256 ^ (15 - j) % 256
theorem be_by (n : Nat) : By (be n) := fun _ _ => Nat.mod_lt _ (by omega)
def numN (b : Nat → Nat) : Nat → Nat
  | 0 => 0
  | k + 1 => numN b k * 256 + b k
def num (b : Nat → Nat) : Nat := numN b 16
theorem numN_lt {b : Nat → Nat} (hb : By b) : ∀ k, k ≤ 16 → numN b k < 256 ^ k
  | 0, _ => by simp [numN]
  | k + 1, h => by
    have ih := numN_lt hb k (by omega)
    have hk := hb k (by omega)
    simp only [numN, Nat.pow_succ]
    omega
theorem numN_digit {b : Nat → Nat} (hb : By b) : ∀ k m, m + k ≤ 16 → numN b (m + k) / 256 ^ k = numN b m
  | 0, m, _ => by simp
  | k + 1, m, h => by
    have ih := numN_digit hb k m (by omega)
    have hk := hb (m + k) (by omega)
    show (numN b (m + k) * 256 + b (m + k)) / 256 ^ (k + 1) = _
    rw [Nat.pow_succ, Nat.mul_comm (256 ^ k) 256, ← Nat.div_div_eq_div_mul, show (numN b (m + k) * 256 + b (m + k)) / 256 = numN b (m + k) by omega, ih]
theorem be_num {b : Nat → Nat} (hb : By b) : Eq16 (be (num b)) b := fun j hj => by
  unfold be num
  have h := numN_digit hb (15 - j) (j + 1) (by omega)
  rw [show j + 1 + (15 - j) = 16 by omega] at h
  rw [h]
  show (numN b j * 256 + b j) % 256 = b j
  have := hb j hj
  omega
/-- The next number: a byte turns only where all behind it were 255. -/
theorem be_next (n j : Nat) : be (n + 1) j = if 256 ^ (15 - j) ∣ n + 1 then (be n j + 1) % 256 else be n j := by
  unfold be
  rw [Nat.succ_div]
  split
  · omega
  · rfl
theorem carry_more (n m : Nat) (h : 256 ^ m ∣ n + 1) : 256 ^ (m + 1) ∣ n + 1 ↔ (n + 1) / 256 ^ m % 256 = 0 := by
  obtain ⟨q, hq⟩ := h
  have p : 0 < 256 ^ m := Nat.pow_pos (by omega)
  rw [hq, Nat.mul_div_cancel_left _ p, Nat.pow_succ]
  rw [Nat.mul_dvd_mul_iff_left p]
  exact Nat.dvd_iff_mod_eq_zero
theorem carry_less {n m k : Nat} (h : ¬ 256 ^ m ∣ n + 1) (hk : m ≤ k) : ¬ 256 ^ k ∣ n + 1 := fun e => h (Nat.dvd_trans (Nat.pow_dvd_pow 256 hk) e)
end Go.Proofs.YtplhkjkaabgffaaGreatDoor.Aes
