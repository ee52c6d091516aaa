import Derived.Test.YtdkkbgokemimfaaDoorD4
import Derived.Lib.Bytes
namespace Go.Proofs.YtdkkbgokemimfaaDoor.Frm
open Go.RowKit Gf8 Aes By8
/- Layer 6 (frame): the reference's wrong. -/

def e60 (n : Int) : Nat := if n < 0 ∨ 4611686018427387904 ≤ n then 62 else 0
def e61 (n : Int) : Nat := if n < 0 ∨ 4611686018427387904 < n then 62 else 0

set_option maxRecDepth 20000 in
theorem wrong4 (p : Nat → Nat) (len : Nat) (v : Value) (V : World) (hv : SliceN V v len p) (hl : len ≤ 140737488351232) (h4 : 5 ≤ len) :
    Calls Tryd.prog 44 #[v, .int .i64 4] V fun e w' => e = .returned (.int .i64 ((if p 4 = 1 then 0 else 61 : Nat) : Int)) ∧ w' = V := by
  obtain ⟨⟨ad, cap, rfl, hc1, hc2, hc3⟩, hp⟩ := hv
  obtain ⟨b, off, rfl, _, hc⟩ := hc3 (by omega)
  obtain ⟨y, hy⟩ : ∃ y, p 4 = y := ⟨_, rfl⟩
  have c1 : V.cell? ⟨b, off + 4, none⟩ = some (.int .u8 y) := by rw [hc 4 (by omega), hy]
  have i2 : (4 : Int) < len := by omega
  rw [hy]
  clear hc hc1 hc2 hc3 hp hy
  by_cases h : y = 1
  · have z0 : ((y : Int) != 1) = false := by simp [h]
    rw [if_pos h]
    clear h
    go_enter Tryd.func44, Tryd.ntmps44
    go_wp2
    go_ret
    exact ⟨rfl, rfl⟩
  · have z0 : ((y : Int) != 1) = true := by simp; omega
    rw [if_neg h]
    clear h
    go_enter Tryd.func44, Tryd.ntmps44
    go_wp2
    go_ret
    exact ⟨rfl, rfl⟩

set_option maxRecDepth 20000 in
theorem wrong5 (p : Nat → Nat) (len : Nat) (v : Value) (V : World) (hv : SliceN V v len p) (hl : len ≤ 140737488351232) (h4 : 6 ≤ len) :
    Calls Tryd.prog 44 #[v, .int .i64 5] V fun e w' => e = .returned (.int .i64 ((if p 5 ≤ 8 then 0 else 62 : Nat) : Int)) ∧ w' = V := by
  obtain ⟨⟨ad, cap, rfl, hc1, hc2, hc3⟩, hp⟩ := hv
  obtain ⟨b, off, rfl, _, hc⟩ := hc3 (by omega)
  obtain ⟨y, hy⟩ : ∃ y, p 5 = y := ⟨_, rfl⟩
  have c1 : V.cell? ⟨b, off + 5, none⟩ = some (.int .u8 y) := by rw [hc 5 (by omega), hy]
  have i2 : (5 : Int) < len := by omega
  rw [hy]
  clear hc hc1 hc2 hc3 hp hy
  by_cases h : y ≤ 8
  · have z0 : ¬ (y : Int) > 8 := by omega
    rw [if_pos h]
    clear h
    go_enter Tryd.func44, Tryd.ntmps44
    go_wp2
    go_ret
    exact ⟨rfl, rfl⟩
  · have z0 : (y : Int) > 8 := by omega
    rw [if_neg h]
    clear h
    go_enter Tryd.func44, Tryd.ntmps44
    go_wp2
    go_ret
    exact ⟨rfl, rfl⟩

set_option maxRecDepth 20000 in
theorem wrong6 (p : Nat → Nat) (len : Nat) (v : Value) (V : World) (hv : SliceN V v len p) (hl : len ≤ 140737488351232) (h4 : 8 ≤ len) :
    Calls Tryd.prog 44 #[v, .int .i64 6] V fun e w' => e = .returned (.int .i64 ((if rdN p 6 2 ≤ 256 then 0 else 63 : Nat) : Int)) ∧ w' = V := by
  have HV : Hid (SliceN V v len p) := hv
  clear hv
  obtain ⟨R, hR⟩ : ∃ R, rdN p 6 2 = R := ⟨_, rfl⟩
  rw [hR]
  by_cases h : R ≤ 256
  · have z0 : ¬ R > 256 := by omega
    rw [if_pos h]
    clear h
    go_enter Tryd.func44, Tryd.ntmps44
    go_wp2_with (go_at_call 45; refine (read_any p len 6 2 _ V HV.out hl (by omega)).mono ?_; rintro e w1 ⟨rfl, rfl⟩; rw [hR])
    go_ret
    exact ⟨rfl, rfl⟩
  · have z0 : R > 256 := by omega
    rw [if_neg h]
    clear h
    go_enter Tryd.func44, Tryd.ntmps44
    go_wp2_with (go_at_call 45; refine (read_any p len 6 2 _ V HV.out hl (by omega)).mono ?_; rintro e w1 ⟨rfl, rfl⟩; rw [hR])
    go_ret
    exact ⟨rfl, rfl⟩

set_option maxRecDepth 20000 in
theorem wrong8 (p : Nat → Nat) (len : Nat) (v : Value) (V : World) (hv : SliceN V v len p) (hl : len ≤ 140737488351232) (h4 : 16 ≤ len) :
    Calls Tryd.prog 44 #[v, .int .i64 8] V fun e w' => e = .returned (.int .i64 (e60 (rdN p 8 8) : Nat)) ∧ w' = V := by
  have HV : Hid (SliceN V v len p) := hv
  clear hv
  obtain ⟨R, hR⟩ : ∃ R, rdN p 8 8 = R := ⟨_, rfl⟩
  rw [hR]
  by_cases h : R < 0
  · have E : Hid (e60 R = 62) := if_pos (Or.inl h)
    go_enter Tryd.func44, Tryd.ntmps44
    go_wp2_with (go_at_call 45; refine (read_any p len 8 8 _ V HV.out hl (by omega)).mono ?_; rintro e w1 ⟨rfl, rfl⟩; rw [hR])
    go_ret
    rw [E.out]
    exact ⟨rfl, rfl⟩
  · by_cases h' : R ≥ 4611686018427387904
    · have E : Hid (e60 R = 62) := if_pos (Or.inr h')
      go_enter Tryd.func44, Tryd.ntmps44
      go_wp2_with (go_at_call 45; refine (read_any p len 8 8 _ V HV.out hl (by omega)).mono ?_; rintro e w1 ⟨rfl, rfl⟩; rw [hR])
      go_ret
      rw [E.out]
      exact ⟨rfl, rfl⟩
    · have E : Hid (e60 R = 0) := if_neg (by omega)
      go_enter Tryd.func44, Tryd.ntmps44
      go_wp2_with (go_at_call 45; refine (read_any p len 8 8 _ V HV.out hl (by omega)).mono ?_; rintro e w1 ⟨rfl, rfl⟩; rw [hR])
      go_ret
      rw [E.out]
      exact ⟨rfl, rfl⟩

set_option maxRecDepth 20000 in
theorem wrong16 (p : Nat → Nat) (len : Nat) (v : Value) (V : World) (hv : SliceN V v len p) (hl : len ≤ 140737488351232) (h4 : 24 ≤ len) :
    Calls Tryd.prog 44 #[v, .int .i64 16] V fun e w' => e = .returned (.int .i64 (e61 (rdN p 16 8) : Nat)) ∧ w' = V := by
  have HV : Hid (SliceN V v len p) := hv
  clear hv
  obtain ⟨R, hR⟩ : ∃ R, rdN p 16 8 = R := ⟨_, rfl⟩
  rw [hR]
  by_cases h : R < 0
  · have E : Hid (e61 R = 62) := if_pos (Or.inl h)
    go_enter Tryd.func44, Tryd.ntmps44
    go_wp2_with (go_at_call 45; refine (read_any p len 16 8 _ V HV.out hl (by omega)).mono ?_; rintro e w1 ⟨rfl, rfl⟩; rw [hR])
    go_ret
    rw [E.out]
    exact ⟨rfl, rfl⟩
  · by_cases h' : R > 4611686018427387904
    · have E : Hid (e61 R = 62) := if_pos (Or.inr h')
      go_enter Tryd.func44, Tryd.ntmps44
      go_wp2_with (go_at_call 45; refine (read_any p len 16 8 _ V HV.out hl (by omega)).mono ?_; rintro e w1 ⟨rfl, rfl⟩; rw [hR])
      go_ret
      rw [E.out]
      exact ⟨rfl, rfl⟩
    · have E : Hid (e61 R = 0) := if_neg (by omega)
      go_enter Tryd.func44, Tryd.ntmps44
      go_wp2_with (go_at_call 45; refine (read_any p len 16 8 _ V HV.out hl (by omega)).mono ?_; rintro e w1 ⟨rfl, rfl⟩; rw [hR])
      go_ret
      rw [E.out]
      exact ⟨rfl, rfl⟩

/-- The same text: the same bytes. -/
theorem strN_inj {p q : Nat → Nat} {n : Nat} (hp : ∀ j, j < n → p j < 256) (hq : ∀ j, j < n → q j < 256) (h : strN p n = strN q n) : ∀ j, j < n → p j = q j := by
  intro j hj
  have h1 := congrArg (fun s => s.data.toList[j]?) h
  simp only [strN, strOfNums_data, numL, List.map_map, List.getElem?_map, List.getElem?_range hj, Option.map_some, Function.comp, Int.toNat_natCast, Option.some.injEq] at h1
  have h2 := congrArg UInt8.toNat h1
  simp only [UInt8.toNat_ofNat'] at h2
  have := hp j hj
  have := hq j hj
  omega
theorem strOfNums_toBytes' (xs : List Int) : (strOfNums xs).data.toList = Go.Lib.bytesOf xs := rfl
theorem str_of_list {s : ByteArray} {l : List UInt8} (h : s.data.toList = l) : s = ⟨l.toArray⟩ := by
  subst h
  rfl
def magicF : Nat → Nat
  | 0 => 67
  | 1 => 72
  | 2 => 82
  | _ => 78
theorem magic_str : (⟨#[67, 72, 82, 78]⟩ : ByteArray) = strN magicF 4 := rfl
theorem magicF_lt (j : Nat) : magicF j < 256 := by
  unfold magicF
  split <;> omega

set_option maxRecDepth 20000 in
theorem wrong0 (p : Nat → Nat) (len : Nat) (v : Value) (V : World) (hv : SliceN V v len p) (hl : len ≤ 140737488351232) (h4 : 4 ≤ len) :
    Calls Tryd.prog 44 #[v, .int .i64 0] V fun e w' => e = .returned (.int .i64 ((if p 0 = 67 ∧ p 1 = 72 ∧ p 2 = 82 ∧ p 3 = 78 then 0 else 60 : Nat) : Int)) ∧ w' = V := by
  obtain ⟨⟨ad, cap, rfl, hc1, hc2, hc3⟩, hp⟩ := id hv
  have c4 : (4 : Int) ≤ cap := by omega
  have S5 : SliceN V (.slice ad 4 cap) 4 p := ⟨⟨ad, cap, rfl, by omega, hc2, fun _ => by
    obtain ⟨b, off, e, hb, hc⟩ := hc3 (by omega)
    exact ⟨b, off, e, hb, fun j hj => hc j (by omega)⟩⟩, fun j hj => hp j (by omega)⟩
  have k1 := conv_str S5
  have lt4 : ∀ j, j < 4 → p j < 256 := fun j hj => hp j (by omega)
  clear hv S5 hc3 hp
  by_cases h : ∀ j, j < 4 → p j = magicF j
  · rw [if_pos ⟨h 0 (by omega), h 1 (by omega), h 2 (by omega), h 3 (by omega)⟩]
    have es : strN p 4 = strN magicF 4 := strN_congr h
    rw [es, ← magic_str] at k1
    clear h es lt4
    go_enter Tryd.func44, Tryd.ntmps44
    go_wp2
    go_ret
    exact ⟨rfl, rfl⟩
  · rw [if_neg fun g => h fun j hj => match j, hj with | 0, _ => g.1 | 1, _ => g.2.1 | 2, _ => g.2.2.1 | 3, _ => g.2.2.2 | n + 4, hj => by omega]
    have es : strN p 4 ≠ ⟨#[67, 72, 82, 78]⟩ := fun e => h (strN_inj lt4 (fun j _ => magicF_lt j) (e.trans magic_str))
    have e2 : (!(strN p 4).toList == [67, 72, 82, 78]) = true := by
      simp only [Bool.not_eq_true', beq_eq_false_iff_ne, ne_eq]
      intro e
      unfold strN at e es
      rw [Go.Lib.strOfNums_toList] at e
      exact es (by rw [← strOfNums_toBytes'] at e; exact str_of_list e)
    clear h lt4
    go_enter Tryd.func44, Tryd.ntmps44
    go_wp2
    go_ret
    exact ⟨rfl, rfl⟩

/-- The places at which a field begins, and where it ends. -/
def startN : Nat → Nat
  | 0 => 0
  | 1 => 4
  | 2 => 5
  | 3 => 6
  | 4 => 8
  | 5 => 16
  | _ => 24
/-- The error of field f, or 0. -/
def wrongN (p : Nat → Nat) : Nat → Nat
  | 0 => if p 0 = 67 ∧ p 1 = 72 ∧ p 2 = 82 ∧ p 3 = 78 then 0 else 60
  | 1 => if p 4 = 1 then 0 else 61
  | 2 => if p 5 ≤ 8 then 0 else 62
  | 3 => if rdN p 6 2 ≤ 256 then 0 else 63
  | 4 => e60 (rdN p 8 8)
  | _ => e61 (rdN p 16 8)
theorem wrong_any (p : Nat → Nat) (len f : Nat) (v : Value) (V : World) (hv : SliceN V v len p) (hl : len ≤ 140737488351232) (hf : f < 6) (h4 : startN (f + 1) ≤ len) :
    Calls Tryd.prog 44 #[v, .int .i64 (startN f : Nat)] V fun e w' => e = .returned (.int .i64 (wrongN p f : Nat)) ∧ w' = V := by
  match f, hf with
  | 0, _ => exact wrong0 p len v V hv hl h4
  | 1, _ => exact wrong4 p len v V hv hl h4
  | 2, _ => exact wrong5 p len v V hv hl h4
  | 3, _ => exact wrong6 p len v V hv hl h4
  | 4, _ => exact wrong8 p len v V hv hl h4
  | 5, _ => exact wrong16 p len v V hv hl h4
  | n + 6, h => omega
end Go.Proofs.YtdkkbgokemimfaaDoor.Frm
