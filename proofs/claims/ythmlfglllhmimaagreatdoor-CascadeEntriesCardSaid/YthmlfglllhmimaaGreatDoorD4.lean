import Derived.Test.YthmlfglllhmimaaGreatDoorY6a
import Derived.Test.YthmlfglllhmimaaGreatDoorY3
namespace Go.Proofs.YthmlfglllhmimaaGreatDoor.Frm
open Go.RowKit Gf8 Aes By8
/- Layer 6 (frame) over Nat: numbers in bytes, the foot; the reference's number, foot, read, copied. -/

def lenV (v : Value) : Nat := match v with | .slice _ m _ => m | _ => 0
/-- n in k bytes, the highest first. -/
def numF (n k : Nat) : Nat → Nat := fun j => n / 256 ^ (k - 1 - j) % 256
theorem numF_lt (n k j : Nat) : numF n k j < 256 := Nat.mod_lt _ (by omega)
/-- The foot's two numbers behind i bytes. -/
def adl (p : Nat → Nat) : Nat → Nat × Nat
  | 0 => (1, 0)
  | i + 1 => (((adl p i).1 + p i) % 65521, ((adl p i).2 + ((adl p i).1 + p i) % 65521) % 65521)
theorem adl_lt (p : Nat → Nat) : ∀ i, (adl p i).1 < 65521 ∧ (adl p i).2 < 65521
  | 0 => ⟨by show 1 < 65521; omega, by show 0 < 65521; omega⟩
  | i + 1 => ⟨Nat.mod_lt _ (by omega), Nat.mod_lt _ (by omega)⟩
def footF (p : Nat → Nat) (len : Nat) : Nat → Nat := numF ((adl p len).2 * 65536 + (adl p len).1) 4
/-- The number in k bytes from at on; above 2^63: -1. -/
def rdN (raw : Nat → Nat) (at' : Nat) : Nat → Int
  | 0 => 0
  | i + 1 => if rdN raw at' i < 0 ∨ 36028797018963968 ≤ rdN raw at' i then -1 else rdN raw at' i * 256 + raw (at' + i)

set_option maxRecDepth 20000 in
set_option maxHeartbeats 400000 in
theorem number_any (n k : Nat) (V : World) (hn : n < 9223372036854775808) (hk : k ≤ 8) :
    Calls Tryz.prog 24 #[.int .i64 n, .int .i64 k] V fun e w' => ∃ r, e = .returned r ∧ w'.ownsRow V.heap.size 5 1 r k (bytesL k (numF n k)) ∧ Below V.heap.size V w' := by
  have HN : Hid (n < 9223372036854775808 ∧ k ≤ 8) := ⟨hn, hk⟩
  have lk : (k : Int) ≤ 8 := by omega
  have ln : (n : Int) < 9223372036854775808 := by omega
  clear hn hk
  obtain ⟨q, hq⟩ : ∃ q, numF n k = q := ⟨_, rfl⟩
  rw [hq]
  have HQ : Hid (numF n k = q) := hq
  clear hq
  go_enter Tryz.func24, Tryz.ntmps24
  go_wp2_with fail
  go_loopw [5, 6] (fun u x W => ∃ j : Nat, j ≤ k ∧ x = .int .i64 ((k : Int) - 1 - j) ∧ W.ownsRow V.heap.size 5 1 u j (bytesL j q) ∧ Below V.heap.size V W) (fun u _ _ => k - lenV u)
  case atStart => exact ⟨0, Nat.zero_le _, by go_num, World.ownsRow_nil _ _ _ _, Below.refl _ _⟩
  case round =>
    obtain ⟨j, hj, rfl, own, bel⟩ := hrel
    obtain ⟨ao, cp, rfl⟩ := own_shapeJ own
    by_cases hlt : j < k
    · obtain ⟨i, hi⟩ : ∃ i : Nat, k - 1 - j = i := ⟨_, rfl⟩
      have e1 : (k : Int) - 1 - j = i := by omega
      rw [e1]
      have i1 : (i : Int) ≥ 0 := by omega
      have i2 : (i : Int) ≤ 7 := by omega
      have HK : Hid (j < k ∧ k - 1 - j = i) := ⟨hlt, hi⟩
      have OW : Hid (_) := own
      have BL : Hid (Below V.heap.size V wr) := bel
      clear own bel hj hlt hi e1
      have EQ : Hid ((n : Int) / 2 ^ (8 * i) % 256 = (q j : Nat)) := by
        show (n : Int) / 2 ^ (8 * i) % 256 = (q j : Nat)
        rw [← HQ.out]
        unfold numF
        rw [HK.out.2, show (256 : Nat) ^ i = 2 ^ (8 * i) by rw [show (256 : Nat) = 2 ^ 8 from rfl, ← Nat.pow_mul]]
        simp
      go_wp2_with (refine atAppB (.tmp 13) (.tmp 19) rfl ?_; go_must (rw [EQ.out]; refine wpList_app1 (B := V.heap.size) (n := j) (g := wr.heap.size) (p := q) (w0 := V) rfl (.tmp 13) (.tmp 19) rfl rfl rfl (ownsRow_below OW.out (belNew wr _)) (heapNew wr _) (by have := HK.out; have := HN.out; omega) (BL.out.trans ((belNew wr _).mono BL.out.size)) (by have := BL.out.size; simp; omega) ?_; intro u2 W2 own2 _ b2 _; obtain ⟨a2, c2, rfl⟩ := own_shapeJ own2))
      go_roundw
      case rel => exact ⟨j + 1, by have := HK.out; omega, by have := HK.out; have := HN.out; go_num, own2, b2⟩
      case measure => have := HK.out; show k - (j + 1) < k - j; omega
    · have ek : j = k := by omega
      subst ek
      rw [show ((j : Int) - 1 - j) = -1 by omega]
      have OW : Hid (_) := own
      have BL : Hid (Below V.heap.size V wr) := bel
      clear own bel
      go_wp2
      go_ret
      exact ⟨_, rfl, OW.out, BL.out⟩

set_option maxRecDepth 20000 in
set_option maxHeartbeats 400000 in
theorem foot_any (p : Nat → Nat) (len : Nat) (v : Value) (V : World) (hv : SliceN V v len p) (hl : len ≤ 140737488351232) :
    Calls Tryz.prog 25 #[v] V fun e w' => ∃ r, e = .returned r ∧ w'.ownsRow V.heap.size 5 1 r 4 (bytesL 4 (footF p len)) ∧ Below V.heap.size V w' := by
  obtain ⟨⟨ad, cap, rfl, hc1, hc2, hc3⟩, hp⟩ := hv
  have HC : Hid (0 < len → ∃ b off, ad = some ⟨b, off, none⟩ ∧ b < V.heap.size ∧ ∀ j, j < len → V.cell? ⟨b, off + j, none⟩ = some (.int .u8 (p j))) := hc3
  have HP : Hid (∀ j, j < len → p j < 256) := hp
  have HL : Hid (len ≤ 140737488351232) := hl
  have lb : (len : Int) ≤ 140737488351232 := by omega
  clear hc1 hc2 hc3 hl hp
  go_enter Tryz.func25, Tryz.ntmps25
  go_wp2_with fail
  go_loopw [3, 4, 5] (fun x y z W => ∃ i : Nat, i ≤ len ∧ x = .int .i64 (adl p i).1 ∧ y = .int .i64 (adl p i).2 ∧ z = .int .i64 i ∧ W = V) (fun _ _ z _ => len - (intOf z).toNat)
  case atStart => exact ⟨0, Nat.zero_le _, rfl, rfl, rfl, rfl⟩
  case round =>
    obtain ⟨i, hi, rfl, rfl, rfl, rfl⟩ := hrel
    by_cases hlt : i < len
    · have i1 : (i : Int) < len := by omega
      obtain ⟨b, off, rfl, _, hc⟩ := HC.out (by omega)
      obtain ⟨l1, l2⟩ := adl_lt p i
      have l3 := HP.out i hlt
      obtain ⟨c, hc0⟩ : ∃ c, p i = c := ⟨_, rfl⟩
      obtain ⟨A, hA⟩ : ∃ A, (adl p i).1 = A := ⟨_, rfl⟩
      obtain ⟨B, hB⟩ : ∃ B, (adl p i).2 = B := ⟨_, rfl⟩
      have c1 : wr.cell? ⟨b, off + i, none⟩ = some (.int .u8 c) := by rw [hc i hlt, hc0]
      rw [hA] at l1
      rw [hB] at l2
      rw [hc0] at l3
      rw [hA, hB]
      have j1 : (A : Int) < 65521 := by omega
      have j2 : (B : Int) < 65521 := by omega
      have j3 : (c : Int) < 256 := by omega
      have HA : Hid (adl p (i + 1) = ((A + c) % 65521, (B + (A + c) % 65521) % 65521)) := by
        show adl p (i + 1) = _
        rw [adl, hA, hB, hc0]
      have HK : Hid (i < len) := hlt
      clear hc l1 l2 l3 hc0 hA hB hlt hi
      go_wp2
      go_roundw
      case rel =>
        refine ⟨i + 1, HK.out, ?_, ?_, by go_num, by first | rfl | trivial⟩
        · rw [HA.out]; go_num
        · rw [HA.out]; go_num
      case measure => have := HK.out; simp [intOf]; omega
    · have ei : i = len := by omega
      subst ei
      have i1 : ¬ (i : Int) < i := by omega
      obtain ⟨l1, l2⟩ := adl_lt p i
      have FF : Hid (footF p i = numF ((adl p i).2 * 65536 + (adl p i).1) 4) := rfl
      obtain ⟨A, hA⟩ : ∃ A, (adl p i).1 = A := ⟨_, rfl⟩
      obtain ⟨B, hB⟩ : ∃ B, (adl p i).2 = B := ⟨_, rfl⟩
      rw [hA, hB] at FF
      rw [hA] at l1
      rw [hB] at l2
      rw [hA, hB]
      have j1 : (A : Int) < 65521 := by omega
      have j2 : (B : Int) < 65521 := by omega
      clear hA hB
      go_wp2_with (go_at_call 24; go_must (rw [show ((B : Int) * 65536 + A) = ((B * 65536 + A : Nat) : Int) by omega]; refine (number_any (B * 65536 + A) 4 _ (by omega) (by omega)).mono ?_; rintro e w1 ⟨r, rfl, own, hb1⟩))
      go_ret
      rw [FF.out]
      exact ⟨_, rfl, own, hb1⟩
theorem rdN_stays (raw : Nat → Nat) (at' i : Nat) (h : rdN raw at' i = -1) : ∀ k, i ≤ k → rdN raw at' k = -1
  | 0, hk => by rw [show i = 0 by omega] at h; exact h
  | k + 1, hk => by
    by_cases e : i = k + 1
    · rw [← e]; exact h
    · rw [rdN, rdN_stays raw at' i h k (by omega)]; rfl
set_option maxRecDepth 20000 in
set_option maxHeartbeats 400000 in
theorem read_any (p : Nat → Nat) (len at' k : Nat) (v : Value) (V : World) (hv : SliceN V v len p) (hl : len ≤ 140737488351232) (hk : at' + k ≤ len) :
    Calls Tryz.prog 48 #[v, .int .i64 at', .int .i64 k] V fun e w' => e = .returned (.int .i64 (rdN p at' k)) ∧ w' = V := by
  obtain ⟨⟨ad, cap, rfl, hc1, hc2, hc3⟩, hp⟩ := hv
  have HC : Hid (0 < len → ∃ b off, ad = some ⟨b, off, none⟩ ∧ b < V.heap.size ∧ ∀ j, j < len → V.cell? ⟨b, off + j, none⟩ = some (.int .u8 (p j))) := hc3
  have HP : Hid (∀ j, j < len → p j < 256) := hp
  have HL : Hid (len ≤ 140737488351232 ∧ at' + k ≤ len) := ⟨hl, hk⟩
  have lb : (len : Int) ≤ 140737488351232 := by omega
  have lk : (at' : Int) + k ≤ len := by omega
  clear hc1 hc2 hc3 hl hp hk
  go_enter Tryz.func48, Tryz.ntmps48
  go_wp2_with fail
  go_loopw [7, 8] (fun x z W => ∃ i : Nat, i ≤ k ∧ x = .int .i64 (rdN p at' i) ∧ 0 ≤ rdN p at' i ∧ rdN p at' i < 9223372036854775808 ∧ z = .int .i64 ((at' + i : Nat) : Int) ∧ W = V) (fun _ z _ => at' + k - (intOf z).toNat)
  case atStart => exact ⟨0, Nat.zero_le _, rfl, Int.le_refl _, by rw [rdN]; omega, rfl, rfl⟩
  case round =>
    obtain ⟨i, hi, rfl, h0, h9, rfl, rfl⟩ := hrel
    obtain ⟨t, ht⟩ : ∃ t, at' + i = t := ⟨_, rfl⟩
    rw [ht]
    obtain ⟨R, hR⟩ : ∃ R, rdN p at' i = R := ⟨_, rfl⟩
    rw [hR]
    rw [hR] at h0 h9
    by_cases hlt : i < k
    · have i1 : (t : Int) < at' + k := by omega
      have i2 : (t : Int) < len := by omega
      by_cases hb : 36028797018963968 ≤ R
      · have b1 : R ≥ 36028797018963968 := hb
        have E : Hid (rdN p at' k = -1) := rdN_stays p at' (i + 1) (by rw [rdN, hR, if_pos (Or.inr hb)]) k (by omega)
        clear hR
        go_wp2
        go_ret
        rw [E.out]
        exact ⟨rfl, rfl⟩
      · have b1 : ¬ R ≥ 36028797018963968 := hb
        have htl : t < len := by omega
        obtain ⟨b, off, rfl, _, hc⟩ := HC.out (by omega)
        have l3 := HP.out t htl
        obtain ⟨c, hc0⟩ : ∃ c, p t = c := ⟨_, rfl⟩
        have c1 : wr.cell? ⟨b, off + t, none⟩ = some (.int .u8 c) := by rw [hc t htl, hc0]
        rw [hc0] at l3
        have j3 : (c : Int) < 256 := by omega
        have b2 : R < 36028797018963968 := by omega
        have HR : Hid (rdN p at' (i + 1) = R * 256 + c) := by
          show rdN p at' (i + 1) = R * 256 + c
          rw [rdN, hR, if_neg (by omega), ht, hc0]
        have HK : Hid (i < k ∧ at' + i = t ∧ 0 ≤ R ∧ R < 36028797018963968 ∧ c < 256) := ⟨hlt, ht, h0, b2, l3⟩
        clear hc l3 hc0 hR hlt hi ht hb h9 htl
        go_wp2
        go_roundw
        case rel =>
          have a := HK.out
          have l := HL.out
          refine ⟨i + 1, by omega, ?_, by rw [HR.out]; omega, by rw [HR.out]; omega, ?_, by first | rfl | trivial⟩
          · rw [HR.out]
          · rw [show at' + (i + 1) = t + 1 by omega]; go_num
        case measure => have := HK.out; have := HL.out; simp [intOf]; omega
    · have ei : i = k := by omega
      subst ei
      have i1 : ¬ (t : Int) < at' + i := by omega
      have HR : Hid (rdN p at' i = R) := hR
      clear hR
      go_wp2
      go_ret
      rw [HR.out]
      exact ⟨rfl, rfl⟩

set_option maxRecDepth 20000 in
theorem copied_any (p : Nat → Nat) (len : Nat) (v : Value) (V : World) (hv : SliceN V v len p) (hnil : ∀ l c, v = .slice none l c → c = 0) (hl : len ≤ 140737488351232) :
    Calls Tryz.prog 49 #[v] V fun e w' => ∃ r, e = .returned r ∧ w'.ownsRow V.heap.size 5 1 r len (bytesL len p) ∧ Below V.heap.size V w' := by
  have HV : Hid (SliceN V v len p) := hv
  have HN : Hid (∀ l c, v = .slice none l c → c = 0) := hnil
  clear hv hnil
  go_enter Tryz.func49, Tryz.ntmps49
  go_wp2_with (first
    | (refine atAppB (.tmp 4) (.tmp 5) rfl ?_; go_must (refine wpList_appS (B := V.heap.size) (n := 0) (m := len) (p := p) rfl (.tmp 4) (.tmp 5) rfl rfl rfl (World.ownsRow_nil _ _ _ _) (sliceN_cg HV.out fun j _ => by rw [Nat.zero_add]) HN.out (by omega) (Nat.le_refl _) ?_; intro u1 W1 own1 gr1; have b1 : Below V.heap.size V W1 := below_grown (Below.refl _ _) (Nat.le_refl _) (World.ownsRow_nil V V.heap.size 5 1) gr1; rw [Nat.zero_add] at own1; clear gr1)))
  go_ret
  exact ⟨_, rfl, own1, b1⟩
end Go.Proofs.YthmlfglllhmimaaGreatDoor.Frm
