import Derived.Test.YtaoncjgllcndmaaDoorD4
import Derived.Lib.Bytes
namespace Go.Proofs.YtaoncjgllcndmaaDoor.Frm
open Go.RowKit Gf8 Aes By8
/- Layer 6 (frame): the reference's wrong. -/

def e60 (n : Int) : Nat := if n < 0 ∨ 4611686018427387904 ≤ n then 62 else 0
def e61 (n : Int) : Nat := if n < 0 ∨ 4611686018427387904 < n then 62 else 0

set_option maxRecDepth 20000 in
theorem wrong4 (p : Nat → Nat) (len : Nat) (v : Value) (V : World) (hv : SliceN V v len p) (hl : len ≤ 140737488351232) (h4 : 5 ≤ len) :
    Calls Tryd.prog 44 #[v, .int .i64 4] V fun e w' => e = .returned (.int .i64 ((if p 4 = 1 then 0 else 61 : Nat) : Int)) ∧ w' = V := by
  obtain ⟨⟨ad, cap, rfl, hc1, hc2, hc3⟩, hp⟩ := hv
  obtain ⟨b, off, rfl, _, hc⟩ := hc3 (by omega)
  obtain ⟨y, hy⟩ : ∃ y, p 4 = y := ⟨_, rfl⟩
  have c1 : V.cell? ⟨b, off + 4, none⟩ = some (.int .u8 y) := by rw [hc 4 (by omega), hy]
  have i2 : (4 : Int) < len := by omega
  rw [hy]
  clear hc hc1 hc2 hc3 hp hy
  by_cases h : y = 1
  · have z0 : ((y : Int) != 1) = false := by simp [h]
    rw [if_pos h]
    clear h
    go_enter Tryd.func44, Tryd.ntmps44
    go_wp2
    go_ret
    exact ⟨rfl, rfl⟩
  · have z0 : ((y : Int) != 1) = true := by simp; omega
    rw [if_neg h]
    clear h
    go_enter Tryd.func44, Tryd.ntmps44
    go_wp2
    go_ret
    exact ⟨rfl, rfl⟩

set_option maxRecDepth 20000 in
theorem wrong5 (p : Nat → Nat) (len : Nat) (v : Value) (V : World) (hv : SliceN V v len p) (hl : len ≤ 140737488351232) (h4 : 6 ≤ len) :
    Calls Tryd.prog 44 #[v, .int .i64 5] V fun e w' => e = .returned (.int .i64 ((if p 5 ≤ 8 then 0 else 62 : Nat) : Int)) ∧ w' = V := by
  obtain ⟨⟨ad, cap, rfl, hc1, hc2, hc3⟩, hp⟩ := hv
  obtain ⟨b, off, rfl, _, hc⟩ := hc3 (by omega)
  obtain ⟨y, hy⟩ : ∃ y, p 5 = y := ⟨_, rfl⟩
  have c1 : V.cell? ⟨b, off + 5, none⟩ = some (.int .u8 y) := by rw [hc 5 (by omega), hy]
  have i2 : (5 : Int) < len := by omega
  rw [hy]
  clear hc hc1 hc2 hc3 hp hy
  by_cases h : y ≤ 8
  · have z0 : ¬ (y : Int) > 8 := by omega
    rw [if_pos h]
    clear h
    go_enter Tryd.func44, Tryd.ntmps44
    go_wp2
    go_ret
    exact ⟨rfl, rfl⟩
  · have z0 : (y : Int) > 8 := by omega
    rw [if_neg h]
    clear h
    go_enter Tryd.func44, Tryd.ntmps44
    go_wp2
    go_ret
    exact ⟨rfl, rfl⟩

set_option maxRecDepth 20000 in
theorem wrong6 (p : Nat → Nat) (len : Nat) (v : Value) (V : World) (hv : SliceN V v len p) (hl : len ≤ 140737488351232) (h4 : 8 ≤ len) :
    Calls Tryd.prog 44 #[v, .int .i64 6] V fun e w' => e = .returned (.int .i64 ((if rdN p 6 2 ≤ 256 then 0 else 63 : Nat) : Int)) ∧ w' = V := by
  have HV : Hid (SliceN V v len p) := hv
  clear hv
  obtain ⟨R, hR⟩ : ∃ R, rdN p 6 2 = R := ⟨_, rfl⟩
  rw [hR]
  by_cases h : R ≤ 256
  · have z0 : ¬ R > 256 := by omega
    rw [if_pos h]
    clear h
    go_enter Tryd.func44, Tryd.ntmps44
    go_wp2_with (go_at_call 45; refine (read_any p len 6 2 _ V HV.out hl (by omega)).mono ?_; rintro e w1 ⟨rfl, rfl⟩; rw [hR])
    go_ret
    exact ⟨rfl, rfl⟩
  · have z0 : R > 256 := by omega
    rw [if_neg h]
    clear h
    go_enter Tryd.func44, Tryd.ntmps44
    go_wp2_with (go_at_call 45; refine (read_any p len 6 2 _ V HV.out hl (by omega)).mono ?_; rintro e w1 ⟨rfl, rfl⟩; rw [hR])
    go_ret
    exact ⟨rfl, rfl⟩

set_option maxRecDepth 20000 in
theorem wrong8 (p : Nat → Nat) (len : Nat) (v : Value) (V : World) (hv : SliceN V v len p) (hl : len ≤ 140737488351232) (h4 : 16 ≤ len) :
    Calls Tryd.prog 44 #[v, .int .i64 8] V fun e w' => e = .returned (.int .i64 (e60 (rdN p 8 8) : Nat)) ∧ w' = V := by
  have HV : Hid (SliceN V v len p) := hv
  clear hv
  obtain ⟨R, hR⟩ : ∃ R, rdN p 8 8 = R := ⟨_, rfl⟩
  rw [hR]
  by_cases h : R < 0
  · have E : Hid (e60 R = 62) := if_pos (Or.inl h)
    go_enter Tryd.func44, Tryd.ntmps44
    go_wp2_with (go_at_call 45; refine (read_any p len 8 8 _ V HV.out hl (by omega)).mono ?_; rintro e w1 ⟨rfl, rfl⟩; rw [hR])
    go_ret
    rw [E.out]
    exact ⟨rfl, rfl⟩
  · by_cases h' : R ≥ 4611686018427387904
    · have E : Hid (e60 R = 62) := if_pos (Or.inr h')
      go_enter Tryd.func44, Tryd.ntmps44
      go_wp2_with (go_at_call 45; refine (read_any p len 8 8 _ V HV.out hl (by omega)).mono ?_; rintro e w1 ⟨rfl, rfl⟩; rw [hR])
      go_ret
      rw [E.out]
      exact ⟨rfl, rfl⟩
    · have E : Hid (e60 R = 0) := if_neg (by omega)
      go_enter Tryd.func44, Tryd.ntmps44
      go_wp2_with (go_at_call 45; refine (read_any p len 8 8 _ V HV.out hl (by omega)).mono ?_; rintro e w1 ⟨rfl, rfl⟩; rw [hR])
      go_ret
      rw [E.out]
      exact ⟨rfl, rfl⟩

set_option maxRecDepth 20000 in
theorem wrong16 (p : Nat → Nat) (len : Nat) (v : Value) (V : World) (hv : SliceN V v len p) (hl : len ≤ 140737488351232) (h4 : 24 ≤ len) :
    Calls Tryd.prog 44 #[v, .int .i64 16] V fun e w' => e = .returned (.int .i64 (e61 (rdN p 16 8) : Nat)) ∧ w' = V := by
  have HV : Hid (SliceN V v len p) := hv
  clear hv
  obtain ⟨R, hR⟩ : ∃ R, rdN p 16 8 = R := ⟨_, rfl⟩
  rw [hR]
  by_cases h : R < 0
  · have E : Hid (e61 R = 62) := if_pos (Or.inl h)
    go_enter Tryd.func44, Tryd.ntmps44
    go_wp2_with (go_at_call 45; refine (read_any p len 16 8 _ V HV.out hl (by omega)).mono ?_; rintro e w1 ⟨rfl, rfl⟩; rw [hR])
    go_ret
    rw [E.out]
    exact ⟨rfl, rfl⟩
  · by_cases h' : R > 4611686018427387904
    · have E : Hid (e61 R = 62) := if_pos (Or.inr h')
      go_enter Tryd.func44, Tryd.ntmps44
      go_wp2_with (go_at_call 45; refine (read_any p len 16 8 _ V HV.out hl (by omega)).mono ?_; rintro e w1 ⟨rfl, rfl⟩; rw [hR])
      go_ret
      rw [E.out]
      exact ⟨rfl, rfl⟩
    · have E : Hid (e61 R = 0) := if_neg (by omega)
      go_enter Tryd.func44, Tryd.ntmps44
      go_wp2_with (go_at_call 45; refine (read_any p len 16 8 _ V HV.out hl (by omega)).mono ?_; rintro e w1 ⟨rfl, rfl⟩; rw [hR])
      go_ret
      rw [E.out]
      exact ⟨rfl, rfl⟩

/-- The same text: the same bytes. -/
theorem strN_inj {p q : Nat → Nat} {n : Nat} (hp : ∀ j, j < n → p j < 256) (hq : ∀ j, j < n → q j < 256) (h : strN p n = strN q n) : ∀ j, j < n → p j = q j := by
  intro j hj
  have h1 := congrArg (fun s => s.data.toList[j]?) h
  simp only [strN, strOfNums_data, numL, List.map_map, List.getElem?_map, List.getElem?_range hj, Option.map_some, Function.comp, Int.toNat_natCast, Option.some.injEq] at h1
  have h2 := congrArg UInt8.toNat h1
  simp only [UInt8.toNat_ofNat'] at h2
  have := hp j hj
  have := hq j hj
  omega
theorem strOfNums_toBytes' (xs : List Int) : (strOfNums xs).data.toList = Go.Lib.bytesOf xs := rfl
theorem str_of_list {s : ByteArray} {l : List UInt8} (h : s.data.toList = l) : s = ⟨l.toArray⟩ := by
  subst h
  rfl
def magicF : Nat → Nat
  | 0 => 67
  | 1 => 72
  | 2 => 82
  | _ => 78
theorem magic_str : (⟨#[67, 72, 82, 78]⟩ : ByteArray) = strN magicF 4 := rfl
theorem magicF_lt (j : Nat) : magicF j < 256 := by
  unfold magicF
  split <;> omega

set_option maxRecDepth 20000 in
theorem wrong0 (p : Nat → Nat) (len : Nat) (v : Value) (V : World) (hv : SliceN V v len p) (hl : len ≤ 140737488351232) (h4 : 4 ≤ len) :
    Calls Tryd.prog 44 #[v, .int .i64 0] V fun e w' => e = .returned (.int .i64 ((if p 0 = 67 ∧ p 1 = 72 ∧ p 2 = 82 ∧ p 3 = 78 then 0 else 60 : Nat) : Int)) ∧ w' = V := by
  obtain ⟨⟨ad, cap, rfl, hc1, hc2, hc3⟩, hp⟩ := id hv
  have c4 : (4 : Int) ≤ cap := by omega
  have S5 : SliceN V (.slice ad 4 cap) 4 p := ⟨⟨ad, cap, rfl, by omega, hc2, fun _ => by
    obtain ⟨b, off, e, hb, hc⟩ := hc3 (by omega)
    exact ⟨b, off, e, hb, fun j hj => hc j (by omega)⟩⟩, fun j hj => hp j (by omega)⟩
  have k1 := conv_str S5
  have lt4 : ∀ j, j < 4 → p j < 256 := fun j hj => hp j (by omega)
  clear hv S5 hc3 hp
  by_cases h : ∀ j, j < 4 → p j = magicF j
  · rw [if_pos ⟨h 0 (by omega), h 1 (by omega), h 2 (by omega), h 3 (by omega)⟩]
    have es : strN p 4 = strN magicF 4 := strN_congr h
    rw [es, ← magic_str] at k1
    clear h es lt4
    go_enter Tryd.func44, Tryd.ntmps44
    go_wp2
    go_ret
    exact ⟨rfl, rfl⟩
  · rw [if_neg fun g => h fun j hj => match j, hj with | 0, _ => g.1 | 1, _ => g.2.1 | 2, _ => g.2.2.1 | 3, _ => g.2.2.2 | n + 4, hj => by omega]
    have es : strN p 4 ≠ ⟨#[67, 72, 82, 78]⟩ := fun e => h (strN_inj lt4 (fun j _ => magicF_lt j) (e.trans magic_str))
    have e2 : (!(strN p 4).toList == [67, 72, 82, 78]) = true := by
      simp only [Bool.not_eq_true', beq_eq_false_iff_ne, ne_eq]
      intro e
      unfold strN at e es
      rw [Go.Lib.strOfNums_toList] at e
      exact es (by rw [← strOfNums_toBytes'] at e; exact str_of_list e)
    clear h lt4
    go_enter Tryd.func44, Tryd.ntmps44
    go_wp2
    go_ret
    exact ⟨rfl, rfl⟩

/-- The places at which a field begins, and where it ends. -/
def startN : Nat → Nat
  | 0 => 0
  | 1 => 4
  | 2 => 5
  | 3 => 6
  | 4 => 8
  | 5 => 16
  | _ => 24
/-- The error of field f, or 0. -/
def wrongN (p : Nat → Nat) : Nat → Nat
  | 0 => if p 0 = 67 ∧ p 1 = 72 ∧ p 2 = 82 ∧ p 3 = 78 then 0 else 60
  | 1 => if p 4 = 1 then 0 else 61
  | 2 => if p 5 ≤ 8 then 0 else 62
  | 3 => if rdN p 6 2 ≤ 256 then 0 else 63
  | 4 => e60 (rdN p 8 8)
  | _ => e61 (rdN p 16 8)
theorem wrong_any (p : Nat → Nat) (len f : Nat) (v : Value) (V : World) (hv : SliceN V v len p) (hl : len ≤ 140737488351232) (hf : f < 6) (h4 : startN (f + 1) ≤ len) :
    Calls Tryd.prog 44 #[v, .int .i64 (startN f : Nat)] V fun e w' => e = .returned (.int .i64 (wrongN p f : Nat)) ∧ w' = V := by
  match f, hf with
  | 0, _ => exact wrong0 p len v V hv hl h4
  | 1, _ => exact wrong4 p len v V hv hl h4
  | 2, _ => exact wrong5 p len v V hv hl h4
  | 3, _ => exact wrong6 p len v V hv hl h4
  | 4, _ => exact wrong8 p len v V hv hl h4
  | 5, _ => exact wrong16 p len v V hv hl h4
  | n + 6, h => omega
end Go.Proofs.YtaoncjgllcndmaaDoor.Frm

namespace Go.Proofs.YtaoncjgllcndmaaDoor.Frm
open Go.RowKit Gf8 Aes By8
/- Judging over Nat. -/

/-- The fault of the fields from field 6 - k on: its place and error; (0, 0): none. -/
def headR (p : Nat → Nat) (len : Nat) : Nat → Nat × Nat
  | 0 => (0, 0)
  | k + 1 => if len < startN (5 - k + 1) then (len, 67) else if wrongN p (5 - k) ≠ 0 then (startN (5 - k), wrongN p (5 - k)) else headR p len k
/-- The header's fault. -/
def headE (p : Nat → Nat) (len : Nat) : Nat × Nat := headR p len 6
/-- Is the header whole and right? -/
def headOk (p : Nat → Nat) (len : Nat) : Bool := decide (24 ≤ len) && (List.range 6).all fun f => wrongN p f == 0
theorem headOk_iff (p : Nat → Nat) (len : Nat) : headOk p len = true ↔ 24 ≤ len ∧ ∀ f, f < 6 → wrongN p f = 0 := by
  unfold headOk
  simp [List.all_eq_true]
def nCells (p : Nat → Nat) : Nat := (rdN p 6 2).toNat
def cellAt (i : Nat) : Nat := 24 + 322 * i
/-- The length that stands ahead of cell i. -/
def cellLen (p : Nat → Nat) (i : Nat) : Int := rdN p (cellAt i) 2
def okC (p : Nat → Nat) (len i : Nat) : Bool := decide (cellAt (i + 1) ≤ len) && decide (cellLen p i = 320)
/-- How many of n cells are whole and right from the front. -/
def wholeK (p : Nat → Nat) (len : Nat) : Nat → Nat
  | 0 => 0
  | n + 1 => if wholeK p len n = n ∧ okC p len n = true then n + 1 else wholeK p len n
theorem wholeK_le (p : Nat → Nat) (len : Nat) : ∀ n, wholeK p len n ≤ n
  | 0 => Nat.le_refl _
  | n + 1 => by
    rw [wholeK]
    have := wholeK_le p len n
    split <;> omega
theorem wholeK_ok (p : Nat → Nat) (len : Nat) : ∀ n i, i < wholeK p len n → okC p len i = true
  | 0, i, h => by rw [wholeK] at h; omega
  | n + 1, i, h => by
    rw [wholeK] at h
    split at h
    · rename_i g
      by_cases e : i = n
      · rw [e]; exact g.2
      · exact wholeK_ok p len n i (by rw [g.1]; omega)
    · exact wholeK_ok p len n i h
theorem wholeK_stop (p : Nat → Nat) (len : Nat) : ∀ n, wholeK p len n < n → okC p len (wholeK p len n) = false
  | 0, h => by omega
  | n + 1, h => by
    rw [wholeK] at h ⊢
    split
    · rename_i g
      rw [if_pos g] at h
      omega
    · rename_i g
      by_cases e : wholeK p len n = n
      · rw [e]
        cases hk : okC p len n with
        | false => rfl
        | true => exact absurd ⟨e, hk⟩ g
      · exact wholeK_stop p len n (by have := wholeK_le p len n; omega)
/-- What marks the number: k cells are right, and the next one isn't, if there is one. -/
theorem wholeK_eq (p : Nat → Nat) (len n k : Nat) (hk : k ≤ n) (h1 : ∀ i, i < k → okC p len i = true) (h2 : k < n → okC p len k = false) : wholeK p len n = k := by
  have a := wholeK_le p len n
  by_cases h : wholeK p len n < k
  · have b := wholeK_stop p len n (by omega)
    rw [h1 _ h] at b
    cases b
  · by_cases e : wholeK p len n = k
    · exact e
    · have b := wholeK_ok p len n k (by omega)
      rw [h2 (by omega)] at b
      cases b
/-- The fault behind k whole cells of n. -/
def tailE (p : Nat → Nat) (len n k : Nat) : Nat × Nat :=
  if k < n then (if cellAt k + 2 ≤ len ∧ cellLen p k ≠ 320 then (cellAt k, 64) else (len, 67))
  else if len < cellAt n + 4 then (len, 67)
  else if ∀ j, j < 4 → p (cellAt n + j) = footF p (cellAt n) j then (if cellAt n + 4 < len then (cellAt n + 4, 66) else (0, 0))
  else (cellAt n, 65)
/-- All that judging comes to: the cells that are whole. -/
def jK (p : Nat → Nat) (len : Nat) : Nat := if headOk p len then wholeK p len (nCells p) else 0
/-- The fault: its place and its error. -/
def jE (p : Nat → Nat) (len : Nat) : Nat × Nat := if headOk p len then tailE p len (nCells p) (wholeK p len (nCells p)) else headE p len
/-- The header's numbers. -/
def jRound (p : Nat → Nat) (len : Nat) : Int := if headOk p len then rdN p 8 8 else 0
def jEpoch (p : Nat → Nat) (len : Nat) : Int := if headOk p len then rdN p 16 8 else 0
def jLeft (p : Nat → Nat) (len : Nat) : Int := if headOk p len then (p 5 : Int) else 0
/-- Cell i's bytes. -/
def cellB (p : Nat → Nat) (i : Nat) : Nat → Nat := fun j => p (cellAt i + 2 + j)
/-- What Put answers beside the cells. -/
def feedE (p : Nat → Nat) (len : Nat) : Nat := if (jE p len).2 = 67 then 0 else (jE p len).2

theorem headR_step (p : Nat → Nat) (len f : Nat) (hf : f < 6) (h : ∀ g, g < f → startN (g + 1) ≤ len ∧ wrongN p g = 0) : headE p len = headR p len (6 - f) := by
  unfold headE
  have go : ∀ f, f ≤ 6 → (∀ g, g < f → startN (g + 1) ≤ len ∧ wrongN p g = 0) → headR p len 6 = headR p len (6 - f) := by
    intro f
    induction f with
    | zero => intro _ _; rfl
    | succ f ih =>
      intro h6 h
      rw [ih (by omega) fun g hg => h g (by omega)]
      obtain ⟨a, b⟩ := h f (by omega)
      rw [show 6 - f = (6 - (f + 1)) + 1 by omega, headR, show 5 - (6 - (f + 1)) = f by omega, if_neg (by omega), if_neg (by rw [b]; simp)]
  exact go f (by omega) h
theorem headE_short (p : Nat → Nat) (len f : Nat) (hf : f < 6) (h : ∀ g, g < f → startN (g + 1) ≤ len ∧ wrongN p g = 0) (hs : len < startN (f + 1)) : headE p len = (len, 67) := by
  rw [headR_step p len f hf h, show 6 - f = (5 - f) + 1 by omega, headR, show 5 - (5 - f) = f by omega, if_pos hs]
theorem headE_wrong (p : Nat → Nat) (len f : Nat) (hf : f < 6) (h : ∀ g, g < f → startN (g + 1) ≤ len ∧ wrongN p g = 0) (hs : startN (f + 1) ≤ len) (hw : wrongN p f ≠ 0) : headE p len = (startN f, wrongN p f) := by
  rw [headR_step p len f hf h, show 6 - f = (5 - f) + 1 by omega, headR, show 5 - (5 - f) = f by omega, if_neg (by omega), if_pos hw]
theorem headOk_no (p : Nat → Nat) (len f : Nat) (hf : f < 6) (h : len < startN (f + 1) ∨ wrongN p f ≠ 0) : headOk p len = false := by
  cases e : headOk p len with
  | false => rfl
  | true =>
    obtain ⟨a, b⟩ := (headOk_iff p len).1 e
    rcases h with h | h
    · have : startN (f + 1) ≤ 24 := by
        match f, hf with
        | 0, _ => decide
        | 1, _ => decide
        | 2, _ => decide
        | 3, _ => decide
        | 4, _ => decide
        | 5, _ => decide
        | n + 6, h => omega
      omega
    · exact absurd (b f hf) h
theorem rd2 (p : Nat → Nat) (a : Nat) (h : p a < 256) : rdN p a 2 = (p a * 256 + p (a + 1) : Nat) := by
  have e1 : rdN p a 1 = p a := by
    rw [rdN, if_neg (by rw [rdN]; omega), rdN, Nat.add_zero]
    omega
  rw [rdN, e1, if_neg (by omega)]
  omega
end Go.Proofs.YtaoncjgllcndmaaDoor.Frm
