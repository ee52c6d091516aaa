import Derived.Test.YtjckkdjldnobmaaGreatDoorX7b
import Derived.Test.YtjckkdjldnobmaaGreatDoorY3
import Derived.Lib.Bytes
namespace Go.Proofs.YtjckkdjldnobmaaGreatDoor.Frm
open Go.RowKit Gf8 Aes By8
/- Layer 6 (frame) over Nat: numbers in bytes, the foot; the reference's number, foot, read, copied. -/

def lenV (v : Value) : Nat := match v with | .slice _ m _ => m | _ => 0
/-- n in k bytes, the highest first. -/
def numF (n k : Nat) : Nat → Nat := fun j => n / 256 ^ (k - 1 - j) % 256
theorem numF_lt (n k j : Nat) : numF n k j < 256 := Nat.mod_lt _ (by omega)
/-- The foot's two numbers behind i bytes. -/
def adl (p : Nat → Nat) : Nat → Nat × Nat
  | 0 => (1, 0)
  | i + 1 => (((adl p i).1 + p i) % 65521, ((adl p i).2 + ((adl p i).1 + p i) % 65521) % 65521)
theorem adl_lt (p : Nat → Nat) : ∀ i, (adl p i).1 < 65521 ∧ (adl p i).2 < 65521
  | 0 => ⟨by show 1 < 65521; omega, by show 0 < 65521; omega⟩
  | i + 1 => ⟨Nat.mod_lt _ (by omega), Nat.mod_lt _ (by omega)⟩
def footF (p : Nat → Nat) (len : Nat) : Nat → Nat := numF ((adl p len).2 * 65536 + (adl p len).1) 4
/-- The number in k bytes from at on; above 2^63: -1. -/
def rdN (raw : Nat → Nat) (at' : Nat) : Nat → Int
  | 0 => 0
  | i + 1 => if rdN raw at' i < 0 ∨ 36028797018963968 ≤ rdN raw at' i then -1 else rdN raw at' i * 256 + raw (at' + i)

set_option maxRecDepth 20000 in
set_option maxHeartbeats 400000 in
theorem number_any (n k : Nat) (V : World) (hn : n < 9223372036854775808) (hk : k ≤ 8) :
    Calls Tryz.prog 104 #[.int .i64 n, .int .i64 k] V fun e w' => ∃ r, e = .returned r ∧ w'.ownsRow V.heap.size 5 1 r k (bytesL k (numF n k)) ∧ Below V.heap.size V w' := by
  have HN : Hid (n < 9223372036854775808 ∧ k ≤ 8) := ⟨hn, hk⟩
  have lk : (k : Int) ≤ 8 := by omega
  have ln : (n : Int) < 9223372036854775808 := by omega
  clear hn hk
  obtain ⟨q, hq⟩ : ∃ q, numF n k = q := ⟨_, rfl⟩
  rw [hq]
  have HQ : Hid (numF n k = q) := hq
  clear hq
  go_enter Tryz.func104, Tryz.ntmps104
  go_wp2_with fail
  go_loopw [5, 6] (fun u x W => ∃ j : Nat, j ≤ k ∧ x = .int .i64 ((k : Int) - 1 - j) ∧ W.ownsRow V.heap.size 5 1 u j (bytesL j q) ∧ Below V.heap.size V W) (fun u _ _ => k - lenV u)
  case atStart => exact ⟨0, Nat.zero_le _, by go_num, World.ownsRow_nil _ _ _ _, Below.refl _ _⟩
  case round =>
    obtain ⟨j, hj, rfl, own, bel⟩ := hrel
    obtain ⟨ao, cp, rfl⟩ := own_shapeJ own
    by_cases hlt : j < k
    · obtain ⟨i, hi⟩ : ∃ i : Nat, k - 1 - j = i := ⟨_, rfl⟩
      have e1 : (k : Int) - 1 - j = i := by omega
      rw [e1]
      have i1 : (i : Int) ≥ 0 := by omega
      have i2 : (i : Int) ≤ 7 := by omega
      have HK : Hid (j < k ∧ k - 1 - j = i) := ⟨hlt, hi⟩
      have OW : Hid (_) := own
      have BL : Hid (Below V.heap.size V wr) := bel
      clear own bel hj hlt hi e1
      have EQ : Hid ((n : Int) / 2 ^ (8 * i) % 256 = (q j : Nat)) := by
        show (n : Int) / 2 ^ (8 * i) % 256 = (q j : Nat)
        rw [← HQ.out]
        unfold numF
        rw [HK.out.2, show (256 : Nat) ^ i = 2 ^ (8 * i) by rw [show (256 : Nat) = 2 ^ 8 from rfl, ← Nat.pow_mul]]
        simp
      go_wp2_with (refine atAppB (.tmp 13) (.tmp 19) rfl ?_; go_must (rw [EQ.out]; refine wpList_app1 (B := V.heap.size) (n := j) (g := wr.heap.size) (p := q) (w0 := V) rfl (.tmp 13) (.tmp 19) rfl rfl rfl (ownsRow_below OW.out (belNew wr _)) (heapNew wr _) (by have := HK.out; have := HN.out; omega) (BL.out.trans ((belNew wr _).mono BL.out.size)) (by have := BL.out.size; simp; omega) ?_; intro u2 W2 own2 _ b2 _; obtain ⟨a2, c2, rfl⟩ := own_shapeJ own2))
      go_roundw
      case rel => exact ⟨j + 1, by have := HK.out; omega, by have := HK.out; have := HN.out; go_num, own2, b2⟩
      case measure => have := HK.out; show k - (j + 1) < k - j; omega
    · have ek : j = k := by omega
      subst ek
      rw [show ((j : Int) - 1 - j) = -1 by omega]
      have OW : Hid (_) := own
      have BL : Hid (Below V.heap.size V wr) := bel
      clear own bel
      go_wp2
      go_ret
      exact ⟨_, rfl, OW.out, BL.out⟩

set_option maxRecDepth 20000 in
set_option maxHeartbeats 400000 in
theorem foot_any (p : Nat → Nat) (len : Nat) (v : Value) (V : World) (hv : SliceN V v len p) (hl : len ≤ 140737488351232) :
    Calls Tryz.prog 89 #[v] V fun e w' => ∃ r, e = .returned r ∧ w'.ownsRow V.heap.size 5 1 r 4 (bytesL 4 (footF p len)) ∧ Below V.heap.size V w' := by
  obtain ⟨⟨ad, cap, rfl, hc1, hc2, hc3⟩, hp⟩ := hv
  have HC : Hid (0 < len → ∃ b off, ad = some ⟨b, off, none⟩ ∧ b < V.heap.size ∧ ∀ j, j < len → V.cell? ⟨b, off + j, none⟩ = some (.int .u8 (p j))) := hc3
  have HP : Hid (∀ j, j < len → p j < 256) := hp
  have HL : Hid (len ≤ 140737488351232) := hl
  have lb : (len : Int) ≤ 140737488351232 := by omega
  clear hc1 hc2 hc3 hl hp
  go_enter Tryz.func89, Tryz.ntmps89
  go_wp2_with fail
  go_loopw [3, 4, 5] (fun x y z W => ∃ i : Nat, i ≤ len ∧ x = .int .i64 (adl p i).1 ∧ y = .int .i64 (adl p i).2 ∧ z = .int .i64 i ∧ W = V) (fun _ _ z _ => len - (intOf z).toNat)
  case atStart => exact ⟨0, Nat.zero_le _, rfl, rfl, rfl, rfl⟩
  case round =>
    obtain ⟨i, hi, rfl, rfl, rfl, rfl⟩ := hrel
    by_cases hlt : i < len
    · have i1 : (i : Int) < len := by omega
      obtain ⟨b, off, rfl, _, hc⟩ := HC.out (by omega)
      obtain ⟨l1, l2⟩ := adl_lt p i
      have l3 := HP.out i hlt
      obtain ⟨c, hc0⟩ : ∃ c, p i = c := ⟨_, rfl⟩
      obtain ⟨A, hA⟩ : ∃ A, (adl p i).1 = A := ⟨_, rfl⟩
      obtain ⟨B, hB⟩ : ∃ B, (adl p i).2 = B := ⟨_, rfl⟩
      have c1 : wr.cell? ⟨b, off + i, none⟩ = some (.int .u8 c) := by rw [hc i hlt, hc0]
      rw [hA] at l1
      rw [hB] at l2
      rw [hc0] at l3
      rw [hA, hB]
      have j1 : (A : Int) < 65521 := by omega
      have j2 : (B : Int) < 65521 := by omega
      have j3 : (c : Int) < 256 := by omega
      have HA : Hid (adl p (i + 1) = ((A + c) % 65521, (B + (A + c) % 65521) % 65521)) := by
        show adl p (i + 1) = _
        rw [adl, hA, hB, hc0]
      have HK : Hid (i < len) := hlt
      clear hc l1 l2 l3 hc0 hA hB hlt hi
      go_wp2
      go_roundw
      case rel =>
        refine ⟨i + 1, HK.out, ?_, ?_, by go_num, by first | rfl | trivial⟩
        · rw [HA.out]; go_num
        · rw [HA.out]; go_num
      case measure => have := HK.out; simp [intOf]; omega
    · have ei : i = len := by omega
      subst ei
      have i1 : ¬ (i : Int) < i := by omega
      obtain ⟨l1, l2⟩ := adl_lt p i
      have FF : Hid (footF p i = numF ((adl p i).2 * 65536 + (adl p i).1) 4) := rfl
      obtain ⟨A, hA⟩ : ∃ A, (adl p i).1 = A := ⟨_, rfl⟩
      obtain ⟨B, hB⟩ : ∃ B, (adl p i).2 = B := ⟨_, rfl⟩
      rw [hA, hB] at FF
      rw [hA] at l1
      rw [hB] at l2
      rw [hA, hB]
      have j1 : (A : Int) < 65521 := by omega
      have j2 : (B : Int) < 65521 := by omega
      clear hA hB
      go_wp2_with (go_at_call 104; go_must (rw [show ((B : Int) * 65536 + A) = ((B * 65536 + A : Nat) : Int) by omega]; refine (number_any (B * 65536 + A) 4 _ (by omega) (by omega)).mono ?_; rintro e w1 ⟨r, rfl, own, hb1⟩))
      go_ret
      rw [FF.out]
      exact ⟨_, rfl, own, hb1⟩
theorem rdN_stays (raw : Nat → Nat) (at' i : Nat) (h : rdN raw at' i = -1) : ∀ k, i ≤ k → rdN raw at' k = -1
  | 0, hk => by rw [show i = 0 by omega] at h; exact h
  | k + 1, hk => by
    by_cases e : i = k + 1
    · rw [← e]; exact h
    · rw [rdN, rdN_stays raw at' i h k (by omega)]; rfl
set_option maxRecDepth 20000 in
set_option maxHeartbeats 400000 in
theorem read_any (p : Nat → Nat) (len at' k : Nat) (v : Value) (V : World) (hv : SliceN V v len p) (hl : len ≤ 140737488351232) (hk : at' + k ≤ len) :
    Calls Tryz.prog 67 #[v, .int .i64 at', .int .i64 k] V fun e w' => e = .returned (.int .i64 (rdN p at' k)) ∧ w' = V := by
  obtain ⟨⟨ad, cap, rfl, hc1, hc2, hc3⟩, hp⟩ := hv
  have HC : Hid (0 < len → ∃ b off, ad = some ⟨b, off, none⟩ ∧ b < V.heap.size ∧ ∀ j, j < len → V.cell? ⟨b, off + j, none⟩ = some (.int .u8 (p j))) := hc3
  have HP : Hid (∀ j, j < len → p j < 256) := hp
  have HL : Hid (len ≤ 140737488351232 ∧ at' + k ≤ len) := ⟨hl, hk⟩
  have lb : (len : Int) ≤ 140737488351232 := by omega
  have lk : (at' : Int) + k ≤ len := by omega
  clear hc1 hc2 hc3 hl hp hk
  go_enter Tryz.func67, Tryz.ntmps67
  go_wp2_with fail
  go_loopw [7, 8] (fun x z W => ∃ i : Nat, i ≤ k ∧ x = .int .i64 (rdN p at' i) ∧ 0 ≤ rdN p at' i ∧ rdN p at' i < 9223372036854775808 ∧ z = .int .i64 ((at' + i : Nat) : Int) ∧ W = V) (fun _ z _ => at' + k - (intOf z).toNat)
  case atStart => exact ⟨0, Nat.zero_le _, rfl, Int.le_refl _, by rw [rdN]; omega, rfl, rfl⟩
  case round =>
    obtain ⟨i, hi, rfl, h0, h9, rfl, rfl⟩ := hrel
    obtain ⟨t, ht⟩ : ∃ t, at' + i = t := ⟨_, rfl⟩
    rw [ht]
    obtain ⟨R, hR⟩ : ∃ R, rdN p at' i = R := ⟨_, rfl⟩
    rw [hR]
    rw [hR] at h0 h9
    by_cases hlt : i < k
    · have i1 : (t : Int) < at' + k := by omega
      have i2 : (t : Int) < len := by omega
      by_cases hb : 36028797018963968 ≤ R
      · have b1 : R ≥ 36028797018963968 := hb
        have E : Hid (rdN p at' k = -1) := rdN_stays p at' (i + 1) (by rw [rdN, hR, if_pos (Or.inr hb)]) k (by omega)
        clear hR
        go_wp2
        go_ret
        rw [E.out]
        exact ⟨rfl, rfl⟩
      · have b1 : ¬ R ≥ 36028797018963968 := hb
        have htl : t < len := by omega
        obtain ⟨b, off, rfl, _, hc⟩ := HC.out (by omega)
        have l3 := HP.out t htl
        obtain ⟨c, hc0⟩ : ∃ c, p t = c := ⟨_, rfl⟩
        have c1 : wr.cell? ⟨b, off + t, none⟩ = some (.int .u8 c) := by rw [hc t htl, hc0]
        rw [hc0] at l3
        have j3 : (c : Int) < 256 := by omega
        have b2 : R < 36028797018963968 := by omega
        have HR : Hid (rdN p at' (i + 1) = R * 256 + c) := by
          show rdN p at' (i + 1) = R * 256 + c
          rw [rdN, hR, if_neg (by omega), ht, hc0]
        have HK : Hid (i < k ∧ at' + i = t ∧ 0 ≤ R ∧ R < 36028797018963968 ∧ c < 256) := ⟨hlt, ht, h0, b2, l3⟩
        clear hc l3 hc0 hR hlt hi ht hb h9 htl
        go_wp2
        go_roundw
        case rel =>
          have a := HK.out
          have l := HL.out
          refine ⟨i + 1, by omega, ?_, by rw [HR.out]; omega, by rw [HR.out]; omega, ?_, by first | rfl | trivial⟩
          · rw [HR.out]
          · rw [show at' + (i + 1) = t + 1 by omega]; go_num
        case measure => have := HK.out; have := HL.out; simp [intOf]; omega
    · have ei : i = k := by omega
      subst ei
      have i1 : ¬ (t : Int) < at' + i := by omega
      have HR : Hid (rdN p at' i = R) := hR
      clear hR
      go_wp2
      go_ret
      rw [HR.out]
      exact ⟨rfl, rfl⟩

set_option maxRecDepth 20000 in
theorem copied_any (p : Nat → Nat) (len : Nat) (v : Value) (V : World) (hv : SliceN V v len p) (hnil : ∀ l c, v = .slice none l c → c = 0) (hl : len ≤ 140737488351232) :
    Calls Tryz.prog 68 #[v] V fun e w' => ∃ r, e = .returned r ∧ w'.ownsRow V.heap.size 5 1 r len (bytesL len p) ∧ Below V.heap.size V w' := by
  have HV : Hid (SliceN V v len p) := hv
  have HN : Hid (∀ l c, v = .slice none l c → c = 0) := hnil
  clear hv hnil
  go_enter Tryz.func68, Tryz.ntmps68
  go_wp2_with (first
    | (refine atAppB (.tmp 4) (.tmp 5) rfl ?_; go_must (refine wpList_appS (B := V.heap.size) (n := 0) (m := len) (p := p) rfl (.tmp 4) (.tmp 5) rfl rfl rfl (World.ownsRow_nil _ _ _ _) (sliceN_cg HV.out fun j _ => by rw [Nat.zero_add]) HN.out (by omega) (Nat.le_refl _) ?_; intro u1 W1 own1 gr1; have b1 : Below V.heap.size V W1 := below_grown (Below.refl _ _) (Nat.le_refl _) (World.ownsRow_nil V V.heap.size 5 1) gr1; rw [Nat.zero_add] at own1; clear gr1)))
  go_ret
  exact ⟨_, rfl, own1, b1⟩
end Go.Proofs.YtjckkdjldnobmaaGreatDoor.Frm

namespace Go.Proofs.YtjckkdjldnobmaaGreatDoor.Frm
open Go.RowKit Gf8 Aes By8
/- Layer 6 (frame): the reference's wrong. -/

def e60 (n : Int) : Nat := if n < 0 ∨ 4611686018427387904 ≤ n then 62 else 0
def e61 (n : Int) : Nat := if n < 0 ∨ 4611686018427387904 < n then 62 else 0

set_option maxRecDepth 20000 in
theorem wrong4 (p : Nat → Nat) (len : Nat) (v : Value) (V : World) (hv : SliceN V v len p) (hl : len ≤ 140737488351232) (h4 : 5 ≤ len) :
    Calls Tryz.prog 66 #[v, .int .i64 4] V fun e w' => e = .returned (.int .i64 ((if p 4 = 1 then 0 else 61 : Nat) : Int)) ∧ w' = V := by
  obtain ⟨⟨ad, cap, rfl, hc1, hc2, hc3⟩, hp⟩ := hv
  obtain ⟨b, off, rfl, _, hc⟩ := hc3 (by omega)
  obtain ⟨y, hy⟩ : ∃ y, p 4 = y := ⟨_, rfl⟩
  have c1 : V.cell? ⟨b, off + 4, none⟩ = some (.int .u8 y) := by rw [hc 4 (by omega), hy]
  have i2 : (4 : Int) < len := by omega
  rw [hy]
  clear hc hc1 hc2 hc3 hp hy
  by_cases h : y = 1
  · have z0 : ((y : Int) != 1) = false := by simp [h]
    rw [if_pos h]
    clear h
    go_enter Tryz.func66, Tryz.ntmps66
    go_wp2
    go_ret
    exact ⟨rfl, rfl⟩
  · have z0 : ((y : Int) != 1) = true := by simp; omega
    rw [if_neg h]
    clear h
    go_enter Tryz.func66, Tryz.ntmps66
    go_wp2
    go_ret
    exact ⟨rfl, rfl⟩

set_option maxRecDepth 20000 in
theorem wrong5 (p : Nat → Nat) (len : Nat) (v : Value) (V : World) (hv : SliceN V v len p) (hl : len ≤ 140737488351232) (h4 : 6 ≤ len) :
    Calls Tryz.prog 66 #[v, .int .i64 5] V fun e w' => e = .returned (.int .i64 ((if p 5 ≤ 8 then 0 else 62 : Nat) : Int)) ∧ w' = V := by
  obtain ⟨⟨ad, cap, rfl, hc1, hc2, hc3⟩, hp⟩ := hv
  obtain ⟨b, off, rfl, _, hc⟩ := hc3 (by omega)
  obtain ⟨y, hy⟩ : ∃ y, p 5 = y := ⟨_, rfl⟩
  have c1 : V.cell? ⟨b, off + 5, none⟩ = some (.int .u8 y) := by rw [hc 5 (by omega), hy]
  have i2 : (5 : Int) < len := by omega
  rw [hy]
  clear hc hc1 hc2 hc3 hp hy
  by_cases h : y ≤ 8
  · have z0 : ¬ (y : Int) > 8 := by omega
    rw [if_pos h]
    clear h
    go_enter Tryz.func66, Tryz.ntmps66
    go_wp2
    go_ret
    exact ⟨rfl, rfl⟩
  · have z0 : (y : Int) > 8 := by omega
    rw [if_neg h]
    clear h
    go_enter Tryz.func66, Tryz.ntmps66
    go_wp2
    go_ret
    exact ⟨rfl, rfl⟩

set_option maxRecDepth 20000 in
theorem wrong6 (p : Nat → Nat) (len : Nat) (v : Value) (V : World) (hv : SliceN V v len p) (hl : len ≤ 140737488351232) (h4 : 8 ≤ len) :
    Calls Tryz.prog 66 #[v, .int .i64 6] V fun e w' => e = .returned (.int .i64 ((if rdN p 6 2 ≤ 256 then 0 else 63 : Nat) : Int)) ∧ w' = V := by
  have HV : Hid (SliceN V v len p) := hv
  clear hv
  obtain ⟨R, hR⟩ : ∃ R, rdN p 6 2 = R := ⟨_, rfl⟩
  rw [hR]
  by_cases h : R ≤ 256
  · have z0 : ¬ R > 256 := by omega
    rw [if_pos h]
    clear h
    go_enter Tryz.func66, Tryz.ntmps66
    go_wp2_with (go_at_call 67; refine (read_any p len 6 2 _ V HV.out hl (by omega)).mono ?_; rintro e w1 ⟨rfl, rfl⟩; rw [hR])
    go_ret
    exact ⟨rfl, rfl⟩
  · have z0 : R > 256 := by omega
    rw [if_neg h]
    clear h
    go_enter Tryz.func66, Tryz.ntmps66
    go_wp2_with (go_at_call 67; refine (read_any p len 6 2 _ V HV.out hl (by omega)).mono ?_; rintro e w1 ⟨rfl, rfl⟩; rw [hR])
    go_ret
    exact ⟨rfl, rfl⟩

set_option maxRecDepth 20000 in
theorem wrong8 (p : Nat → Nat) (len : Nat) (v : Value) (V : World) (hv : SliceN V v len p) (hl : len ≤ 140737488351232) (h4 : 16 ≤ len) :
    Calls Tryz.prog 66 #[v, .int .i64 8] V fun e w' => e = .returned (.int .i64 (e60 (rdN p 8 8) : Nat)) ∧ w' = V := by
  have HV : Hid (SliceN V v len p) := hv
  clear hv
  obtain ⟨R, hR⟩ : ∃ R, rdN p 8 8 = R := ⟨_, rfl⟩
  rw [hR]
  by_cases h : R < 0
  · have E : Hid (e60 R = 62) := if_pos (Or.inl h)
    go_enter Tryz.func66, Tryz.ntmps66
    go_wp2_with (go_at_call 67; refine (read_any p len 8 8 _ V HV.out hl (by omega)).mono ?_; rintro e w1 ⟨rfl, rfl⟩; rw [hR])
    go_ret
    rw [E.out]
    exact ⟨rfl, rfl⟩
  · by_cases h' : R ≥ 4611686018427387904
    · have E : Hid (e60 R = 62) := if_pos (Or.inr h')
      go_enter Tryz.func66, Tryz.ntmps66
      go_wp2_with (go_at_call 67; refine (read_any p len 8 8 _ V HV.out hl (by omega)).mono ?_; rintro e w1 ⟨rfl, rfl⟩; rw [hR])
      go_ret
      rw [E.out]
      exact ⟨rfl, rfl⟩
    · have E : Hid (e60 R = 0) := if_neg (by omega)
      go_enter Tryz.func66, Tryz.ntmps66
      go_wp2_with (go_at_call 67; refine (read_any p len 8 8 _ V HV.out hl (by omega)).mono ?_; rintro e w1 ⟨rfl, rfl⟩; rw [hR])
      go_ret
      rw [E.out]
      exact ⟨rfl, rfl⟩

set_option maxRecDepth 20000 in
theorem wrong16 (p : Nat → Nat) (len : Nat) (v : Value) (V : World) (hv : SliceN V v len p) (hl : len ≤ 140737488351232) (h4 : 24 ≤ len) :
    Calls Tryz.prog 66 #[v, .int .i64 16] V fun e w' => e = .returned (.int .i64 (e61 (rdN p 16 8) : Nat)) ∧ w' = V := by
  have HV : Hid (SliceN V v len p) := hv
  clear hv
  obtain ⟨R, hR⟩ : ∃ R, rdN p 16 8 = R := ⟨_, rfl⟩
  rw [hR]
  by_cases h : R < 0
  · have E : Hid (e61 R = 62) := if_pos (Or.inl h)
    go_enter Tryz.func66, Tryz.ntmps66
    go_wp2_with (go_at_call 67; refine (read_any p len 16 8 _ V HV.out hl (by omega)).mono ?_; rintro e w1 ⟨rfl, rfl⟩; rw [hR])
    go_ret
    rw [E.out]
    exact ⟨rfl, rfl⟩
  · by_cases h' : R > 4611686018427387904
    · have E : Hid (e61 R = 62) := if_pos (Or.inr h')
      go_enter Tryz.func66, Tryz.ntmps66
      go_wp2_with (go_at_call 67; refine (read_any p len 16 8 _ V HV.out hl (by omega)).mono ?_; rintro e w1 ⟨rfl, rfl⟩; rw [hR])
      go_ret
      rw [E.out]
      exact ⟨rfl, rfl⟩
    · have E : Hid (e61 R = 0) := if_neg (by omega)
      go_enter Tryz.func66, Tryz.ntmps66
      go_wp2_with (go_at_call 67; refine (read_any p len 16 8 _ V HV.out hl (by omega)).mono ?_; rintro e w1 ⟨rfl, rfl⟩; rw [hR])
      go_ret
      rw [E.out]
      exact ⟨rfl, rfl⟩

/-- The same text: the same bytes. -/
theorem strN_inj {p q : Nat → Nat} {n : Nat} (hp : ∀ j, j < n → p j < 256) (hq : ∀ j, j < n → q j < 256) (h : strN p n = strN q n) : ∀ j, j < n → p j = q j := by
  intro j hj
  have h1 := congrArg (fun s => s.data.toList[j]?) h
  simp only [strN, strOfNums_data, numL, List.map_map, List.getElem?_map, List.getElem?_range hj, Option.map_some, Function.comp, Int.toNat_natCast, Option.some.injEq] at h1
  have h2 := congrArg UInt8.toNat h1
  simp only [UInt8.toNat_ofNat'] at h2
  have := hp j hj
  have := hq j hj
  omega
theorem strOfNums_toBytes' (xs : List Int) : (strOfNums xs).data.toList = Go.Lib.bytesOf xs := rfl
theorem str_of_list {s : ByteArray} {l : List UInt8} (h : s.data.toList = l) : s = ⟨l.toArray⟩ := by
  subst h
  rfl
def magicF : Nat → Nat
  | 0 => 67
  | 1 => 72
  | 2 => 82
  | _ => 78
theorem magic_str : (⟨#[67, 72, 82, 78]⟩ : ByteArray) = strN magicF 4 := rfl
theorem magicF_lt (j : Nat) : magicF j < 256 := by
  unfold magicF
  split <;> omega

set_option maxRecDepth 20000 in
theorem wrong0 (p : Nat → Nat) (len : Nat) (v : Value) (V : World) (hv : SliceN V v len p) (hl : len ≤ 140737488351232) (h4 : 4 ≤ len) :
    Calls Tryz.prog 66 #[v, .int .i64 0] V fun e w' => e = .returned (.int .i64 ((if p 0 = 67 ∧ p 1 = 72 ∧ p 2 = 82 ∧ p 3 = 78 then 0 else 60 : Nat) : Int)) ∧ w' = V := by
  obtain ⟨⟨ad, cap, rfl, hc1, hc2, hc3⟩, hp⟩ := id hv
  have c4 : (4 : Int) ≤ cap := by omega
  have S5 : SliceN V (.slice ad 4 cap) 4 p := ⟨⟨ad, cap, rfl, by omega, hc2, fun _ => by
    obtain ⟨b, off, e, hb, hc⟩ := hc3 (by omega)
    exact ⟨b, off, e, hb, fun j hj => hc j (by omega)⟩⟩, fun j hj => hp j (by omega)⟩
  have k1 := conv_str S5
  have lt4 : ∀ j, j < 4 → p j < 256 := fun j hj => hp j (by omega)
  clear hv S5 hc3 hp
  by_cases h : ∀ j, j < 4 → p j = magicF j
  · rw [if_pos ⟨h 0 (by omega), h 1 (by omega), h 2 (by omega), h 3 (by omega)⟩]
    have es : strN p 4 = strN magicF 4 := strN_congr h
    rw [es, ← magic_str] at k1
    clear h es lt4
    go_enter Tryz.func66, Tryz.ntmps66
    go_wp2
    go_ret
    exact ⟨rfl, rfl⟩
  · rw [if_neg fun g => h fun j hj => match j, hj with | 0, _ => g.1 | 1, _ => g.2.1 | 2, _ => g.2.2.1 | 3, _ => g.2.2.2 | n + 4, hj => by omega]
    have es : strN p 4 ≠ ⟨#[67, 72, 82, 78]⟩ := fun e => h (strN_inj lt4 (fun j _ => magicF_lt j) (e.trans magic_str))
    have e2 : (!(strN p 4).toList == [67, 72, 82, 78]) = true := by
      simp only [Bool.not_eq_true', beq_eq_false_iff_ne, ne_eq]
      intro e
      unfold strN at e es
      rw [Go.Lib.strOfNums_toList] at e
      exact es (by rw [← strOfNums_toBytes'] at e; exact str_of_list e)
    clear h lt4
    go_enter Tryz.func66, Tryz.ntmps66
    go_wp2
    go_ret
    exact ⟨rfl, rfl⟩

/-- The places at which a field begins, and where it ends. -/
def startN : Nat → Nat
  | 0 => 0
  | 1 => 4
  | 2 => 5
  | 3 => 6
  | 4 => 8
  | 5 => 16
  | _ => 24
/-- The error of field f, or 0. -/
def wrongN (p : Nat → Nat) : Nat → Nat
  | 0 => if p 0 = 67 ∧ p 1 = 72 ∧ p 2 = 82 ∧ p 3 = 78 then 0 else 60
  | 1 => if p 4 = 1 then 0 else 61
  | 2 => if p 5 ≤ 8 then 0 else 62
  | 3 => if rdN p 6 2 ≤ 256 then 0 else 63
  | 4 => e60 (rdN p 8 8)
  | _ => e61 (rdN p 16 8)
theorem wrong_any (p : Nat → Nat) (len f : Nat) (v : Value) (V : World) (hv : SliceN V v len p) (hl : len ≤ 140737488351232) (hf : f < 6) (h4 : startN (f + 1) ≤ len) :
    Calls Tryz.prog 66 #[v, .int .i64 (startN f : Nat)] V fun e w' => e = .returned (.int .i64 (wrongN p f : Nat)) ∧ w' = V := by
  match f, hf with
  | 0, _ => exact wrong0 p len v V hv hl h4
  | 1, _ => exact wrong4 p len v V hv hl h4
  | 2, _ => exact wrong5 p len v V hv hl h4
  | 3, _ => exact wrong6 p len v V hv hl h4
  | 4, _ => exact wrong8 p len v V hv hl h4
  | 5, _ => exact wrong16 p len v V hv hl h4
  | n + 6, h => omega
end Go.Proofs.YtjckkdjldnobmaaGreatDoor.Frm

namespace Go.Proofs.YtjckkdjldnobmaaGreatDoor.Frm
open Go.RowKit Gf8 Aes By8
/- Judging over Nat. -/

/-- The fault of the fields from field 6 - k on: its place and error; (0, 0): none. -/
def headR (p : Nat → Nat) (len : Nat) : Nat → Nat × Nat
  | 0 => (0, 0)
  | k + 1 => if len < startN (5 - k + 1) then (len, 67) else if wrongN p (5 - k) ≠ 0 then (startN (5 - k), wrongN p (5 - k)) else headR p len k
/-- The header's fault. -/
def headE (p : Nat → Nat) (len : Nat) : Nat × Nat := headR p len 6
/-- Is the header whole and right? -/
def headOk (p : Nat → Nat) (len : Nat) : Bool := decide (24 ≤ len) && (List.range 6).all fun f => wrongN p f == 0
theorem headOk_iff (p : Nat → Nat) (len : Nat) : headOk p len = true ↔ 24 ≤ len ∧ ∀ f, f < 6 → wrongN p f = 0 := by
  unfold headOk
  simp [List.all_eq_true]
def nCells (p : Nat → Nat) : Nat := (rdN p 6 2).toNat
def cellAt (i : Nat) : Nat := 24 + 322 * i
/-- The length that stands ahead of cell i. -/
def cellLen (p : Nat → Nat) (i : Nat) : Int := rdN p (cellAt i) 2
def okC (p : Nat → Nat) (len i : Nat) : Bool := decide (cellAt (i + 1) ≤ len) && decide (cellLen p i = 320)
/-- How many of n cells are whole and right from the front. -/
def wholeK (p : Nat → Nat) (len : Nat) : Nat → Nat
  | 0 => 0
  | n + 1 => if wholeK p len n = n ∧ okC p len n = true then n + 1 else wholeK p len n
theorem wholeK_le (p : Nat → Nat) (len : Nat) : ∀ n, wholeK p len n ≤ n
  | 0 => Nat.le_refl _
  | n + 1 => by
    rw [wholeK]
    have := wholeK_le p len n
    split <;> omega
theorem wholeK_ok (p : Nat → Nat) (len : Nat) : ∀ n i, i < wholeK p len n → okC p len i = true
  | 0, i, h => by rw [wholeK] at h; omega
  | n + 1, i, h => by
    rw [wholeK] at h
    split at h
    · rename_i g
      by_cases e : i = n
      · rw [e]; exact g.2
      · exact wholeK_ok p len n i (by rw [g.1]; omega)
    · exact wholeK_ok p len n i h
theorem wholeK_stop (p : Nat → Nat) (len : Nat) : ∀ n, wholeK p len n < n → okC p len (wholeK p len n) = false
  | 0, h => by omega
  | n + 1, h => by
    rw [wholeK] at h ⊢
    split
    · rename_i g
      rw [if_pos g] at h
      omega
    · rename_i g
      by_cases e : wholeK p len n = n
      · rw [e]
        cases hk : okC p len n with
        | false => rfl
        | true => exact absurd ⟨e, hk⟩ g
      · exact wholeK_stop p len n (by have := wholeK_le p len n; omega)
/-- What marks the number: k cells are right, and the next one isn't, if there is one. -/
theorem wholeK_eq (p : Nat → Nat) (len n k : Nat) (hk : k ≤ n) (h1 : ∀ i, i < k → okC p len i = true) (h2 : k < n → okC p len k = false) : wholeK p len n = k := by
  have a := wholeK_le p len n
  by_cases h : wholeK p len n < k
  · have b := wholeK_stop p len n (by omega)
    rw [h1 _ h] at b
    cases b
  · by_cases e : wholeK p len n = k
    · exact e
    · have b := wholeK_ok p len n k (by omega)
      rw [h2 (by omega)] at b
      cases b
/-- The fault behind k whole cells of n. -/
def tailE (p : Nat → Nat) (len n k : Nat) : Nat × Nat :=
  if k < n then (if cellAt k + 2 ≤ len ∧ cellLen p k ≠ 320 then (cellAt k, 64) else (len, 67))
  else if len < cellAt n + 4 then (len, 67)
  else if ∀ j, j < 4 → p (cellAt n + j) = footF p (cellAt n) j then (if cellAt n + 4 < len then (cellAt n + 4, 66) else (0, 0))
  else (cellAt n, 65)
/-- All that judging comes to: the cells that are whole. -/
def jK (p : Nat → Nat) (len : Nat) : Nat := if headOk p len then wholeK p len (nCells p) else 0
/-- The fault: its place and its error. -/
def jE (p : Nat → Nat) (len : Nat) : Nat × Nat := if headOk p len then tailE p len (nCells p) (wholeK p len (nCells p)) else headE p len
/-- The header's numbers. -/
def jRound (p : Nat → Nat) (len : Nat) : Int := if headOk p len then rdN p 8 8 else 0
def jEpoch (p : Nat → Nat) (len : Nat) : Int := if headOk p len then rdN p 16 8 else 0
def jLeft (p : Nat → Nat) (len : Nat) : Int := if headOk p len then (p 5 : Int) else 0
/-- Cell i's bytes. -/
def cellB (p : Nat → Nat) (i : Nat) : Nat → Nat := fun j => p (cellAt i + 2 + j)
/-- What Put answers beside the cells. -/
def feedE (p : Nat → Nat) (len : Nat) : Nat := if (jE p len).2 = 67 then 0 else (jE p len).2

theorem headR_step (p : Nat → Nat) (len f : Nat) (hf : f < 6) (h : ∀ g, g < f → startN (g + 1) ≤ len ∧ wrongN p g = 0) : headE p len = headR p len (6 - f) := by
  unfold headE
  have go : ∀ f, f ≤ 6 → (∀ g, g < f → startN (g + 1) ≤ len ∧ wrongN p g = 0) → headR p len 6 = headR p len (6 - f) := by
    intro f
    induction f with
    | zero => intro _ _; rfl
    | succ f ih =>
      intro h6 h
      rw [ih (by omega) fun g hg => h g (by omega)]
      obtain ⟨a, b⟩ := h f (by omega)
      rw [show 6 - f = (6 - (f + 1)) + 1 by omega, headR, show 5 - (6 - (f + 1)) = f by omega, if_neg (by omega), if_neg (by rw [b]; simp)]
  exact go f (by omega) h
theorem headE_short (p : Nat → Nat) (len f : Nat) (hf : f < 6) (h : ∀ g, g < f → startN (g + 1) ≤ len ∧ wrongN p g = 0) (hs : len < startN (f + 1)) : headE p len = (len, 67) := by
  rw [headR_step p len f hf h, show 6 - f = (5 - f) + 1 by omega, headR, show 5 - (5 - f) = f by omega, if_pos hs]
theorem headE_wrong (p : Nat → Nat) (len f : Nat) (hf : f < 6) (h : ∀ g, g < f → startN (g + 1) ≤ len ∧ wrongN p g = 0) (hs : startN (f + 1) ≤ len) (hw : wrongN p f ≠ 0) : headE p len = (startN f, wrongN p f) := by
  rw [headR_step p len f hf h, show 6 - f = (5 - f) + 1 by omega, headR, show 5 - (5 - f) = f by omega, if_neg (by omega), if_pos hw]
theorem headOk_no (p : Nat → Nat) (len f : Nat) (hf : f < 6) (h : len < startN (f + 1) ∨ wrongN p f ≠ 0) : headOk p len = false := by
  cases e : headOk p len with
  | false => rfl
  | true =>
    obtain ⟨a, b⟩ := (headOk_iff p len).1 e
    rcases h with h | h
    · have : startN (f + 1) ≤ 24 := by
        match f, hf with
        | 0, _ => decide
        | 1, _ => decide
        | 2, _ => decide
        | 3, _ => decide
        | 4, _ => decide
        | 5, _ => decide
        | n + 6, h => omega
      omega
    · exact absurd (b f hf) h
theorem rd2 (p : Nat → Nat) (a : Nat) (h : p a < 256) : rdN p a 2 = (p a * 256 + p (a + 1) : Nat) := by
  have e1 : rdN p a 1 = p a := by
    rw [rdN, if_neg (by rw [rdN]; omega), rdN, Nat.add_zero]
    omega
  rw [rdN, e1, if_neg (by omega)]
  omega
end Go.Proofs.YtjckkdjldnobmaaGreatDoor.Frm

namespace Go.Proofs.YtjckkdjldnobmaaGreatDoor.Frm
open Go.RowKit Gf8 Aes By8
/- A batch's bytes over Nat: packed, read back, one byte turned. -/

theorem adl_congr {p q : Nat → Nat} : ∀ {n : Nat}, (∀ j, j < n → p j = q j) → adl p n = adl q n
  | 0, _ => rfl
  | n + 1, h => by rw [adl, adl, adl_congr fun j hj => h j (by omega), h n (by omega)]
theorem footF_congr {p q : Nat → Nat} {n : Nat} (h : ∀ j, j < n → p j = q j) : footF p n = footF q n := by
  unfold footF
  rw [adl_congr h]
theorem footF_lt (p : Nat → Nat) (n j : Nat) : footF p n j < 256 := numF_lt _ _ _
/-- What was read, laid in bytes, is what stood there. -/
theorem num_rd (p : Nat → Nat) (a k n : Nat) (hb : ∀ j, j < k → p (a + j) < 256) (h : rdN p a k = n) : ∀ j, j < k → numF n k j = p (a + j) := by
  have part : ∀ d i, i + d = k → rdN p a i = (n / 256 ^ d : Nat) := by
    intro d
    induction d with
    | zero => intro i hi; rw [Nat.pow_zero, Nat.div_one, ← h]; exact congrArg _ (by omega)
    | succ d ih =>
      intro i hi
      have e := ih (i + 1) (by omega)
      rw [rdN] at e
      have hb' := hb i (by omega)
      rw [Nat.pow_succ, ← Nat.div_div_eq_div_mul]
      obtain ⟨x, hx⟩ : ∃ x, n / 256 ^ d = x := ⟨_, rfl⟩
      rw [hx] at e ⊢
      split at e
      · omega
      · omega
  intro j hj
  have e1 := part (k - 1 - j) (j + 1) (by omega)
  have e0 := part (k - j) j (by omega)
  rw [rdN] at e1
  have hb' := hb j hj
  unfold numF
  obtain ⟨x, hx⟩ : ∃ x, n / 256 ^ (k - 1 - j) = x := ⟨_, rfl⟩
  rw [hx] at e1 ⊢
  obtain ⟨y, hy⟩ : ∃ y, n / 256 ^ (k - j) = y := ⟨_, rfl⟩
  rw [hy] at e0
  split at e1
  · omega
  · omega

/-- The bytes ahead of the foot. -/
def packB (rd ep lf n : Nat) (c : Nat → Nat → Nat) : Nat → Nat := fun j =>
  if j < 4 then magicF j else if j = 4 then 1 else if j = 5 then lf else if j < 8 then numF n 2 (j - 6) else if j < 16 then numF rd 8 (j - 8) else if j < 24 then numF ep 8 (j - 16)
  else if (j - 24) % 322 < 2 then numF 320 2 ((j - 24) % 322) else c ((j - 24) / 322) ((j - 24) % 322 - 2)
/-- A batch's bytes. -/
def packF (rd ep lf n : Nat) (c : Nat → Nat → Nat) : Nat → Nat := fun j => if j < cellAt n then packB rd ep lf n c j else footF (packB rd ep lf n c) (cellAt n) (j - cellAt n)
theorem packB_num6 (rd ep lf n : Nat) (c : Nat → Nat → Nat) {j : Nat} (h : j < 2) : packB rd ep lf n c (6 + j) = numF n 2 j := by
  unfold packB
  rw [if_neg (by omega), if_neg (by omega), if_neg (by omega), if_pos (by omega), show 6 + j - 6 = j by omega]
theorem packB_num8 (rd ep lf n : Nat) (c : Nat → Nat → Nat) {j : Nat} (h : j < 8) : packB rd ep lf n c (8 + j) = numF rd 8 j := by
  unfold packB
  rw [if_neg (by omega), if_neg (by omega), if_neg (by omega), if_neg (by omega), if_pos (by omega), show 8 + j - 8 = j by omega]
theorem packB_num16 (rd ep lf n : Nat) (c : Nat → Nat → Nat) {j : Nat} (h : j < 8) : packB rd ep lf n c (16 + j) = numF ep 8 j := by
  unfold packB
  rw [if_neg (by omega), if_neg (by omega), if_neg (by omega), if_neg (by omega), if_neg (by omega), if_pos (by omega), show 16 + j - 16 = j by omega]
theorem packB_len (rd ep lf n : Nat) (c : Nat → Nat → Nat) (i : Nat) {j : Nat} (h : j < 2) : packB rd ep lf n c (cellAt i + j) = numF 320 2 j := by
  unfold packB cellAt
  have e : (24 + 322 * i + j - 24) % 322 = j := by omega
  rw [if_neg (by omega), if_neg (by omega), if_neg (by omega), if_neg (by omega), if_neg (by omega), if_neg (by omega), e, if_pos h]
theorem packB_cell (rd ep lf n : Nat) (c : Nat → Nat → Nat) (i : Nat) {j : Nat} (h : j < 320) : packB rd ep lf n c (cellAt i + 2 + j) = c i j := by
  unfold packB cellAt
  have e : (24 + 322 * i + 2 + j - 24) % 322 = 2 + j := by omega
  have e2 : (24 + 322 * i + 2 + j - 24) / 322 = i := by omega
  rw [if_neg (by omega), if_neg (by omega), if_neg (by omega), if_neg (by omega), if_neg (by omega), if_neg (by omega), e, e2, if_neg (by omega), show 2 + j - 2 = j by omega]
theorem packB_lt (rd ep lf n : Nat) (c : Nat → Nat → Nat) (hl : lf < 256) (hc : ∀ i j, i < n → j < 320 → c i j < 256) {j : Nat} (hj : j < cellAt n) : packB rd ep lf n c j < 256 := by
  unfold packB
  unfold cellAt at hj
  split
  · exact magicF_lt _
  split
  · omega
  split
  · exact hl
  split
  · exact numF_lt _ _ _
  split
  · exact numF_lt _ _ _
  split
  · exact numF_lt _ _ _
  split
  · exact numF_lt _ _ _
  · exact hc _ _ (by omega) (by omega)
theorem packF_in (rd ep lf n : Nat) (c : Nat → Nat → Nat) {j : Nat} (h : j < cellAt n) : packF rd ep lf n c j = packB rd ep lf n c j := if_pos h
theorem packF_foot (rd ep lf n : Nat) (c : Nat → Nat → Nat) (j : Nat) : packF rd ep lf n c (cellAt n + j) = footF (packB rd ep lf n c) (cellAt n) j := by
  unfold packF
  rw [if_neg (by omega), show cellAt n + j - cellAt n = j by omega]
theorem cellAt_ge (n : Nat) : 24 ≤ cellAt n := by unfold cellAt; omega
theorem cellAt_mono {i n : Nat} (h : i < n) : cellAt i + 322 ≤ cellAt n := by unfold cellAt; omega
theorem cellAt_succ (n : Nat) : cellAt (n + 1) = cellAt n + 322 := by unfold cellAt; omega

structure Good (rd ep lf n : Nat) : Prop where
  rd : rd < 4611686018427387904
  ep : ep ≤ 4611686018427387904
  lf : lf ≤ 8
  n : n ≤ 256
/-- The fields of bytes that are a batch. -/
theorem ok_parts {p : Nat → Nat} {len : Nat} (_hb : ∀ j, j < len → p j < 256) (h : (jE p len).2 = 0) :
    headOk p len = true ∧ nCells p ≤ 256 ∧ len = cellAt (nCells p) + 4 ∧ wholeK p len (nCells p) = nCells p ∧ (∀ i, i < nCells p → cellLen p i = 320) ∧ (∀ j, j < 4 → p (cellAt (nCells p) + j) = footF p (cellAt (nCells p)) j) ∧ jE p len = (0, 0) := by
  cases hok : headOk p len with
  | false =>
    unfold jE at h
    rw [hok, if_neg (by simp)] at h
    exfalso
    have go : ∀ k, k ≤ 6 → (headR p len k).2 = 0 → ∀ f, 6 - k ≤ f → f < 6 → startN (f + 1) ≤ len ∧ wrongN p f = 0 := by
      intro k
      induction k with
      | zero => intro _ _ f h1 h2; omega
      | succ k ih =>
        intro hk h0 f h1 h2
        rw [headR] at h0
        split at h0
        · cases h0
        · split at h0
          · rename_i w; exact absurd h0 w
          · by_cases e : f = 5 - k
            · subst e
              rename_i a b
              exact ⟨by omega, by simpa using b⟩
            · exact ih (by omega) h0 f (by omega) h2
    have all := go 6 (Nat.le_refl _) h
    have ok : headOk p len = true := (headOk_iff p len).2 ⟨(all 5 (by omega) (by omega)).1, fun f hf => (all f (by omega) hf).2⟩
    rw [hok] at ok
    cases ok
  | true =>
    have hj : jE p len = tailE p len (nCells p) (wholeK p len (nCells p)) := by unfold jE; rw [hok, if_pos rfl]
    rw [hj] at h
    obtain ⟨h24, hf⟩ := (headOk_iff p len).1 hok
    have h3 : rdN p 6 2 ≤ 256 := by
      have this : (if rdN p 6 2 ≤ 256 then 0 else 63) = 0 := hf 3 (by omega)
      split at this
      · assumption
      · cases this
    have hn : nCells p ≤ 256 := by unfold nCells; omega
    unfold tailE at h
    split at h
    · split at h <;> cases h
    · rename_i hk
      have hkn : wholeK p len (nCells p) = nCells p := by have := wholeK_le p len (nCells p); omega
      split at h
      · cases h
      · rename_i hl
        split at h
        · rename_i hfoot
          split at h
          · cases h
          · rename_i hm
            have hlen : len = cellAt (nCells p) + 4 := by omega
            refine ⟨rfl, hn, hlen, hkn, fun i hi => ?_, hfoot, ?_⟩
            · have := wholeK_ok p len (nCells p) i (by omega)
              unfold okC at this
              simp at this
              exact this.2
            · rw [hj]
              unfold tailE
              rw [if_neg hk, if_neg hl, if_pos hfoot, if_neg hm]
        · cases h
theorem ok_good {p : Nat → Nat} {len : Nat} (hok : headOk p len = true) (hn : nCells p ≤ 256) : Good (rdN p 8 8).toNat (rdN p 16 8).toNat (p 5) (nCells p) ∧ 0 ≤ rdN p 8 8 ∧ 0 ≤ rdN p 16 8 := by
  obtain ⟨h24, hf⟩ := (headOk_iff p len).1 hok
  have h8 : 0 ≤ rdN p 8 8 ∧ rdN p 8 8 < 4611686018427387904 := by
    have this : (if rdN p 8 8 < 0 ∨ 4611686018427387904 ≤ rdN p 8 8 then 62 else 0) = 0 := hf 4 (by omega)
    split at this
    · cases this
    · omega
  have h16 : 0 ≤ rdN p 16 8 ∧ rdN p 16 8 ≤ 4611686018427387904 := by
    have this : (if rdN p 16 8 < 0 ∨ 4611686018427387904 < rdN p 16 8 then 62 else 0) = 0 := hf 5 (by omega)
    split at this
    · cases this
    · omega
  have h5 : p 5 ≤ 8 := by
    have this : (if p 5 ≤ 8 then 0 else 62) = 0 := hf 2 (by omega)
    split at this
    · assumption
    · cases this
  exact ⟨⟨by omega, by omega, h5, hn⟩, h8.1, h16.1⟩
/-- Bytes that are a batch are what it is packed to. -/
theorem back_pack {p : Nat → Nat} {len : Nat} (hb : ∀ j, j < len → p j < 256) (h : (jE p len).2 = 0) : ∀ j, j < len → p j = packF (rdN p 8 8).toNat (rdN p 16 8).toNat (p 5) (nCells p) (cellB p) j := by
  obtain ⟨hok, hn, hlen, hk, hc, hfoot, _⟩ := ok_parts hb h
  obtain ⟨g, g8, g16⟩ := ok_good hok hn
  obtain ⟨h24, hf⟩ := (headOk_iff p len).1 hok
  have body : ∀ j, j < cellAt (nCells p) → p j = packB (rdN p 8 8).toNat (rdN p 16 8).toNat (p 5) (nCells p) (cellB p) j := by
    intro j hj
    unfold packB
    have h0 : (if p 0 = 67 ∧ p 1 = 72 ∧ p 2 = 82 ∧ p 3 = 78 then 0 else 60) = 0 := hf 0 (by omega)
    have h1 : (if p 4 = 1 then 0 else 61) = 0 := hf 1 (by omega)
    split at h0
    · rename_i m
      split at h1
      · rename_i m4
        split
        · match j with
          | 0 => exact m.1
          | 1 => exact m.2.1
          | 2 => exact m.2.2.1
          | 3 => exact m.2.2.2
          | j + 4 => omega
        split
        · rename_i e; rw [e]; exact m4
        split
        · rename_i e; rw [e]
        split
        · have := num_rd p 6 2 (nCells p) (fun j hj => hb _ (by omega)) (by unfold nCells; have := rd2 p 6 (hb 6 (by omega)); omega) (j - 6) (by omega)
          rw [this, show 6 + (j - 6) = j by omega]
        split
        · have := num_rd p 8 8 (rdN p 8 8).toNat (fun j hj => hb _ (by omega)) (by omega) (j - 8) (by omega)
          rw [this, show 8 + (j - 8) = j by omega]
        split
        · have := num_rd p 16 8 (rdN p 16 8).toNat (fun j hj => hb _ (by omega)) (by omega) (j - 16) (by omega)
          rw [this, show 16 + (j - 16) = j by omega]
        · have ji : j = cellAt ((j - 24) / 322) + (j - 24) % 322 := by unfold cellAt; omega
          have il : (j - 24) / 322 < nCells p := by unfold cellAt at hj; omega
          have cm := cellAt_mono il
          split
          · have := num_rd p (cellAt ((j - 24) / 322)) 2 320 (fun j hj => hb _ (by omega)) (hc _ il) ((j - 24) % 322) (by omega)
            rw [this, ← ji]
          · unfold cellB
            exact congrArg p (by omega)
      · cases h1
    · cases h0
  intro j hj
  unfold packF
  split
  · rename_i l; exact body j l
  · have := hfoot (j - cellAt (nCells p)) (by omega)
    rw [show cellAt (nCells p) + (j - cellAt (nCells p)) = j by omega] at this
    rw [this]
    exact congrFun (footF_congr body) _
theorem numF4_inj {x y : Nat} (hx : x < 4294967296) (hy : y < 4294967296) (h : ∀ j, j < 4 → numF x 4 j = numF y 4 j) : x = y := by
  have h0 := h 0 (by omega)
  have h1 := h 1 (by omega)
  have h2 := h 2 (by omega)
  have h3 := h 3 (by omega)
  simp only [numF] at h0 h1 h2 h3
  simp at h0 h1 h2 h3
  omega
/- More bytes. -/
end Go.Proofs.YtjckkdjldnobmaaGreatDoor.Frm
