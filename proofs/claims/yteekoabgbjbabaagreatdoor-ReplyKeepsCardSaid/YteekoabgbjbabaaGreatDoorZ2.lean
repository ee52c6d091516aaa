import Derived.Test.YteekoabgbjbabaaGreatDoorZ1
import Derived.Test.YteekoabgbjbabaaGreatDoorI1
import Derived.Test.YteekoabgbjbabaaGreatDoorI2
import Derived.Test.YteekoabgbjbabaaGreatDoorY3
namespace Go.Proofs.YteekoabgbjbabaaGreatDoor.Aes
open Go.RowKit Gf8 By8
/- The program's block: Stream, Mask; all of it keeps the chapter's words. -/

/-- What each operation of 'out[i] ^= p[i]' yields. -/
def maV (O n k : Nat) (v : Value) (b off : Nat) (s p : Nat → Nat) (j : Nat) : Value :=
  match j with
  | 0 => .slice (some ⟨O, 0, none⟩) n n | 1 => .int .i64 k | 2 => .pointer (some ⟨O, k, none⟩) | 3 => .int .u8 (s k) | 4 => v | 5 => .int .i64 k | 6 => .pointer (some ⟨b, off + k, none⟩) | 7 => .int .u8 (p k)
  | 8 => .int .u8 (s k ^^^ p k : Nat) | 9 => .pointer (some ⟨O, k, none⟩) | _ => undef
/-- The rows of Mask. -/
structure PmT (B O n k : Nat) (s p : Nat → Nat) (V W : World) : Prop where
  o : W.heap[O]? = some (.cells (bA n (mixU (fun j => s j ^^^ p j) s k)) 5)
  bel : Below B V W

set_option maxRecDepth 20000 in
set_option maxHeartbeats 1000000 in
theorem pMask_any (key p : Nat → Nat) (s0 len : Nat) (v : Value) (V : World) (hk : By key) (hv : SliceN V v len p) (hl : len ≤ 140737488351232) :
    Calls Tryz.prog 45 #[.agg (bA 16 key), .agg (bA 16 (be s0)), v] V fun e w' => ∃ r, e = .returned r ∧ w'.ownsRow V.heap.size 5 1 r len (bytesL len (maskF (kw key) s0 p)) ∧ Below V.heap.size V w' := by
  have HK : Hid (By key) := hk
  have HL : Hid (len ≤ 140737488351232) := hl
  obtain ⟨⟨ad, cap, rfl, hc1, hc2, hc3⟩, hp⟩ := hv
  have HC : Hid (0 < len → ∃ b off, ad = some ⟨b, off, none⟩ ∧ b < V.heap.size ∧ ∀ j, j < len → V.cell? ⟨b, off + j, none⟩ = some (.int .u8 (p j))) := hc3
  have HP : Hid (∀ j, j < len → p j < 256) := hp
  have HS : Hid (∀ j, maskF (kw key) s0 (fun _ => 0) j < 256) := by
    intro j
    show 0 ^^^ enc (kw key) (be (s0 + j / 16)) (j % 16) < 256
    rw [Nat.zero_xor]
    exact enc_by (fun j _ => kw_lt hk j) (be_by _) _ (Nat.mod_lt _ (by omega))
  have ES : Hid (∀ j, maskF (kw key) s0 (fun _ => 0) j ^^^ p j = maskF (kw key) s0 p j) := by
    intro j
    unfold maskF
    rw [Nat.zero_xor, Nat.xor_comm]
  clear hk hl hc1 hc2 hc3 hp
  have ll : (len : Int) ≤ 140737488351232 := by have := HL.out; omega
  have kt : S0T V.heap.size key s0 V ((V.alloc (.cells (bA 16 key) 35)).alloc (.cells (bA 16 (be s0)) 35)) := by
    have h := heap2c V (.cells (bA 16 key) 35) (.cells (bA 16 (be s0)) 35)
    exact ⟨h.1, h.2, below2c _ _ _⟩
  go_enter Tryz.func45, Tryz.ntmps45
  go_wp2_with (first
    | (refine atLoad 35 (.tmp 3) rfl ?_; go_must (refine wpList_load_row rfl 35 (.tmp 3) rfl V.heap.size rfl 35 _ (0, 0) _ kt.k Tryz.underlying35 rfl (size16 _) ?_; simp only [Act.put, List.setIfInBounds_toArray, List.set_cons_succ, List.set_cons_zero]))
    | (refine atLoad 35 (.tmp 4) rfl ?_; go_must (refine wpList_load_row rfl 35 (.tmp 4) rfl (V.heap.size + 1) rfl 35 _ (0, 0) _ kt.s Tryz.underlying35 rfl (size16 _) ?_; simp only [Act.put, List.setIfInBounds_toArray, List.set_cons_succ, List.set_cons_zero]))
    | (go_at_call 62; refine (pstream_any key s0 len _ HK.out HL.out).mono ?_; rintro e w1 ⟨O, rfl, lO, gO, hb1⟩))
  obtain ⟨s, hs⟩ : ∃ s, maskF (kw key) s0 (fun _ => 0) = s := ⟨_, rfl⟩
  rw [hs] at gO HS ES
  have b1 : Below V.heap.size V w1 := kt.bel.trans (hb1.mono kt.bel.size)
  have KT : Hid (PmT V.heap.size O len 0 s p V w1) := ⟨gO, b1⟩
  have LO : Hid (V.heap.size ≤ O) := by have := kt.bel.size; show V.heap.size ≤ O; omega
  clear hs gO hb1 b1 kt lO HK
  go_loopw [16] (fun x W => ∃ k : Nat, k ≤ len ∧ x = .int .i64 k ∧ PmT V.heap.size O len k s p V W) (fun x _ => len - (intOf x).toNat)
  case atStart => exact ⟨0, by omega, rfl, KT.out⟩
  case round =>
    obtain ⟨k, hk, rfl, kt⟩ := hrel
    clear KT
    by_cases hlt : k < len
    · have i1 : (k : Int) < len := by omega
      have HI : Hid (k < len) := hlt
      have KT : Hid (_) := kt
      obtain ⟨b, off, rfl, hb, hc⟩ := HC.out (by omega)
      have CC : Hid (∀ j, j < len → V.cell? ⟨b, off + j, none⟩ = some (.int .u8 (p j))) := hc
      have LB : Hid (b < V.heap.size) := hb
      clear hlt hk kt hb hc
      go_wp2_with fail
      refine wp_region_det 31 [(0, 19), (1, 20), (2, 21), (3, 22), (4, 23), (5, 24), (6, 25), (7, 26), (8, 27), (9, 28)] (maV O len k (.slice (some ⟨b, off, none⟩) len cap) b off s p) (fun l W => PmT V.heap.size O len (if l 10 = true then k + 1 else k) s p V W) (by kernel_rfl) (by kernel_rfl) rfl (by kernel_rfl) (by decide) (by decide) ?_ ?_ ?_
      · exact ⟨KT.out.o, KT.out.bel.drew⟩
      · intro j hj l a W hl hf hdep hl2 hcl _ hT
        have lk := HI.out
        have lO := LO.out
        have lB := LB.out
        match j, hj with
        | 0, _ => exact stepV rfl rfl (execMvB rfl (hf 7 (by decide))) ⟨⟨_, rfl, rfl⟩, hT⟩
        | 1, _ => exact stepV rfl rfl (execMvB rfl (hf 8 (by decide))) ⟨⟨_, rfl, rfl⟩, hT⟩
        | 2, _ => exact stepV rfl rfl (execIdxS0 rfl (hdep _ rfl 0 rfl _ rfl _ rfl) (hdep _ rfl 1 rfl _ rfl _ rfl) lk) ⟨⟨_, rfl, rfl⟩, hT⟩
        | 3, _ =>
          have n10 : l 10 = false := by
            cases h : l 10 with
            | false => rfl
            | true =>
              have := hcl 8 _ rfl (hcl 10 _ rfl h 8 rfl) 3 rfl
              rw [hl] at this
              cases this
          have ge := hT.o
          rw [n10, if_neg (by decide)] at ge
          refine stepV rfl rfl (execLdB rfl (hdep _ rfl 2 rfl _ rfl _ rfl) (cellN ge lk)) ⟨⟨_, rfl, congrArg (fun z : Nat => Act.put a _ (.int .u8 z)) ?_⟩, hT⟩
          unfold mixU; rw [if_neg (by omega)]
        | 4, _ => exact stepV rfl rfl (execMvB rfl (hf 2 (by decide))) ⟨⟨_, rfl, rfl⟩, hT⟩
        | 5, _ => exact stepV rfl rfl (execMvB rfl (hf 8 (by decide))) ⟨⟨_, rfl, rfl⟩, hT⟩
        | 6, _ => exact stepV rfl rfl (execIdxS rfl (hdep _ rfl 4 rfl _ rfl _ rfl) (hdep _ rfl 5 rfl _ rfl _ rfl) lk) ⟨⟨_, rfl, rfl⟩, hT⟩
        | 7, _ => exact stepV rfl rfl (execLdB rfl (hdep _ rfl 6 rfl _ rfl _ rfl) (by rw [cell_below hT.bel lB]; exact CC.out k lk)) ⟨⟨_, rfl, rfl⟩, hT⟩
        | 8, _ => exact stepV rfl rfl (execXor5 rfl (hdep _ rfl 3 rfl _ rfl _ rfl) (hdep _ rfl 7 rfl _ rfl _ rfl) (HS.out k) (HP.out k lk)) ⟨⟨_, rfl, rfl⟩, hT⟩
        | 9, _ => exact stepV rfl rfl (execIdxS0 rfl (hdep _ rfl 0 rfl _ rfl _ rfl) (hdep _ rfl 1 rfl _ rfl _ rfl) lk) ⟨⟨_, rfl, rfl⟩, hT⟩
        | 10, _ =>
          have ge := hT.o
          rw [hl, if_neg (by decide)] at ge
          refine stepS rfl rfl (execStB rfl (hdep _ rfl 9 rfl _ rfl _ rfl) (hdep _ rfl 8 rfl _ rfl _ rfl) (cellN ge lk) (frozen4 ge)) ⟨⟨_, rfl, rfl⟩, ⟨?_, hT.bel.setCell lO _⟩⟩
          rw [heap4 _ ge]; exact congrArg (fun z => some (Obj.cells z 5)) ((bA_set len _ k _).trans (congrArg (bA len) (updN_mixU (fun j => s j ^^^ p j) s k)))
        | n + 11, h => exact absurd h (by simp)
      · intro l W hall hT
        simp only [hall 10 (by simp), if_true] at hT
        have KT2 : Hid (_) := hT
        clear hall hT KT
        simp only [putP, maV, Act.put, List.setIfInBounds_toArray, List.set_cons_succ, List.set_cons_zero]
        go_wp2
        go_roundw
        case rel => exact ⟨k + 1, by have := HI.out; omega, by go_num, KT2.out⟩
        case measure => have := HI.out; simp [intOf]; omega
    · have i1 : ¬ (k : Int) < len := by omega
      have ek : k = len := by omega
      subst ek
      have G : Hid (wr.heap[O]? = some (.cells (bA k (maskF (kw key) s0 p)) 5)) := by
        have h := kt.o
        rw [bA_congr (g := maskF (kw key) s0 p) (fun j hj => by unfold mixU; rw [if_pos hj]; exact ES.out j)] at h
        exact h
      go_wp2
      go_ret
      exact ⟨_, rfl, own_full G.out LO.out (by have := HL.out; omega), kt.bel⟩

/- A Schedule's == of itself. -/
end Go.Proofs.YteekoabgbjbabaaGreatDoor.Aes
