import Derived.Test.YteekoabgbjbabaaGreatDoorX5i
import Derived.Lib.Bytes
namespace Go.Proofs.YteekoabgbjbabaaGreatDoor.Oni
open Go.RowKit Gf8 Aes By8 Cel
/- inside, nextCell. -/

theorem ofInt_i64 {a : Nat} (ha : a < 18446744073709551616) : (BitVec.ofInt 64 (a : Int)).toNat = a := by
  rw [BitVec.ofInt_natCast, BitVec.toNat_ofNat]; exact Nat.mod_eq_of_lt (by omega)
theorem or_add8 (a b : Nat) (hb : b < 256) : a * 256 ||| b = a * 256 + b := by
  have := Nat.shiftLeft_add_eq_or_of_lt (i := 8) hb a
  rw [Nat.shiftLeft_eq] at this
  exact this.symm
theorem or_i64 {a b : Nat} (ha : a < 9223372036854775808) (hb : b < 9223372036854775808) : bits .or .i64 (a : Int) (b : Int) = ((a ||| b : Nat) : Int) := by
  have hlt : a ||| b < 9223372036854775808 := Nat.or_lt_two_pow (n := 63) ha hb
  show IntKind.i64.wrap ((BitVec.ofInt 64 (a : Int) ||| BitVec.ofInt 64 (b : Int)).toNat : Int) = _
  rw [BitVec.toNat_or, ofInt_i64 (by omega), ofInt_i64 (by omega)]
  simp [IntKind.wrap, IntKind.bits, IntKind.signed]
  omega
section
variable {o : Oper} {a : Act} {w : World}
theorem execU8I {x : Operand} {p : Nat} (ho : o.op = .convert 5 3 x) (hx : a.eval x = .int .u8 p) (h : p < 256) : (execOp a.eval o).run Tryz.prog w = .ok (.value (.int .i64 (p : Int))) w := by
  unfold execOp
  simp only [ho, hx]
  simp [go_sem]
  simp [IntKind.wrap, IntKind.bits, IntKind.signed]
  rw [if_neg (by omega)]
  omega
theorem execShl8 {x : Operand} {n : Nat} (ho : o.op = .binOp .shl 3 x (.const (.int .u64 8)) 79) (hx : a.eval x = .int .i64 (n : Int)) (hn : n < 65536) : (execOp a.eval o).run Tryz.prog w = .ok (.value (.int .i64 ((n * 256 : Nat) : Int))) w := by
  have e : IntKind.i64.wrap ((n : Int) * 256) = (n : Int) * 256 := by simp [IntKind.wrap, IntKind.bits, IntKind.signed]; omega
  unfold execOp
  simp only [ho, hx]
  simp [go_sem, e]
theorem execOrI {x y : Operand} {p q : Nat} (ho : o.op = .binOp .or 3 x y 3) (hx : a.eval x = .int .i64 ((p * 256 : Nat) : Int)) (hy : a.eval y = .int .i64 (q : Int)) (hp : p < 256) (hq : q < 256) : (execOp a.eval o).run Tryz.prog w = .ok (.value (.int .i64 ((p * 256 + q : Nat) : Int))) w := by
  have e := or_i64 (a := p * 256) (b := q) (by omega) (by omega)
  rw [or_add8 _ _ hq] at e
  unfold execOp
  simp only [ho, hx, hy]
  simp [go_sem] at e ⊢
  rw [e]
end
def inV (v : Value) (b off p0 p1 n0 : Nat) (j : Nat) : Value :=
  match j with
  | 0 => v | 1 => .pointer (some ⟨b, off + 0, none⟩) | 2 => .int .u8 p0 | 3 => .int .i64 p0 | 4 => .int .i64 ((p0 * 256 : Nat) : Int) | 5 => v | 6 => .pointer (some ⟨b, off + 1, none⟩) | 7 => .int .u8 p1 | 8 => .int .i64 p1 | _ => .int .i64 n0
set_option maxRecDepth 20000 in
set_option maxHeartbeats 1000000 in
theorem inside_any (left : Int) (N : Nat) (p : Nat → Nat) (v : Value) (V : World) (hs : sz left = 32 + N) (hN : 50 ≤ N ∧ N ≤ 288) (hv : SliceN V v N p) :
    Calls Tryz.prog 54 #[.int .i64 left, v] V fun e w' => ∃ r, e = .returned (.tuple #[r, .int .i64 ((if inOk N p then 0 else 71 : Nat) : Int)]) ∧ (inOk N p = true → SliceZ V r (inN p) fun j => p (2 + j)) ∧ Below V.heap.size V w' := by
  obtain ⟨b, off, cap, rfl, hc1, hc2, hc⟩ := cell_at hv (by omega)
  obtain ⟨p0, h0⟩ : ∃ p0, p 0 = p0 := ⟨_, rfl⟩
  obtain ⟨p1, h1⟩ : ∃ p1, p 1 = p1 := ⟨_, rfl⟩
  obtain ⟨n0, hn0⟩ : ∃ n0, inN p = n0 := ⟨_, rfl⟩
  have e0 : p0 < 256 := by rw [← h0]; exact hv.bytes 0 (by omega)
  have e1 : p1 < 256 := by rw [← h1]; exact hv.bytes 1 (by omega)
  have en : n0 = p0 * 256 + p1 := by rw [← hn0]; unfold inN; rw [h0, h1]
  have c0 := hc 0 (by omega)
  have c1 := hc 1 (by omega)
  rw [h0] at c0
  rw [h1] at c1
  have PR := proom_any left
  rw [hs] at PR
  have HC : Hid (V.cell? ⟨b, off + 0, none⟩ = some (.int .u8 p0) ∧ V.cell? ⟨b, off + 1, none⟩ = some (.int .u8 p1) ∧ p0 < 256 ∧ p1 < 256 ∧ n0 = p0 * 256 + p1 ∧ N ≤ cap ∧ 50 ≤ N ∧ N ≤ 288 ∧ b < V.heap.size) := ⟨c0, c1, e0, e1, en, hc1, hN.1, hN.2, by obtain ⟨a', c', e', _, _, e3⟩ := hv.shape; obtain ⟨b', o', e'', hb', _⟩ := e3 (by omega); injection e' with e4; rw [e''] at e4; injection e4 with e5; injection e5 with e6 _; rw [e6]; exact hb'⟩
  have HV : Hid (SliceN V (.slice (some ⟨b, off, none⟩) N cap) N p ∧ ∀ j, j < N → V.cell? ⟨b, off + j, none⟩ = some (.int .u8 (p j))) := ⟨hv, hc⟩
  have l1 : (N : Int) ≤ 288 := by omega
  have ln : (n0 : Int) ≤ 65535 := by omega
  obtain ⟨OK, hOK⟩ : ∃ OK, inOk N p = OK := ⟨_, rfl⟩
  have HO : Hid (inOk N p = OK ∧ inN p = n0) := ⟨hOK, hn0⟩
  rw [hOK, hn0]
  obtain ⟨E, hE⟩ : ∃ E : Nat, (if OK = true then 0 else 71) = E := ⟨_, rfl⟩
  have HE : Hid ((OK = true → E = 0) ∧ (OK = false → E = 71)) := ⟨fun q => by rw [← hE, if_pos q], fun q => by rw [← hE, q]; rfl⟩
  rw [hE]
  clear hE
  clear hv hc hc1 hc2 e0 e1 en c0 c1 hN h0 h1 hs hOK hn0
  go_enter Tryz.func54, Tryz.ntmps54
  go_wp2_with fail
  refine wp_region_det 40 [(0, 10), (1, 11), (2, 12), (3, 13), (4, 14), (5, 15), (6, 16), (7, 17), (8, 18), (9, 19), (10, 6)] (inV (.slice (some ⟨b, off, none⟩) N cap) b off p0 p1 n0) (fun _ W => Below V.heap.size V W) (by kernel_rfl) (by kernel_rfl) rfl (by kernel_rfl) (by decide) (by decide) ?_ ?_ ?_
  · exact (Below.refl _ _).drew
  · intro j hj l a W hl hf hdep hl2 hcl _ hT
    obtain ⟨c0, c1, e0, e1, en, hcap, hN1, hN2, hbV⟩ := HC.out
    match j, hj with
    | 0, _ => exact stepV rfl rfl (execMvB rfl (hf 1 (by decide))) ⟨⟨_, rfl, rfl⟩, hT⟩
    | 1, _ => exact stepV rfl rfl (execIdxS (k := 0) rfl (hdep _ rfl 0 rfl _ rfl _ rfl) rfl (by omega)) ⟨⟨_, rfl, rfl⟩, hT⟩
    | 2, _ => exact stepV rfl rfl (execLdB rfl (hdep _ rfl 1 rfl _ rfl _ rfl) ((cell_below hT hbV).trans c0)) ⟨⟨_, rfl, rfl⟩, hT⟩
    | 3, _ => exact stepV rfl rfl (execU8I rfl (hdep _ rfl 2 rfl _ rfl _ rfl) e0) ⟨⟨_, rfl, rfl⟩, hT⟩
    | 4, _ => exact stepV rfl rfl (execShl8 rfl (hdep _ rfl 3 rfl _ rfl _ rfl) (by omega)) ⟨⟨_, rfl, rfl⟩, hT⟩
    | 5, _ => exact stepV rfl rfl (execMvB rfl (hf 1 (by decide))) ⟨⟨_, rfl, rfl⟩, hT⟩
    | 6, _ => exact stepV rfl rfl (execIdxS (k := 1) rfl (hdep _ rfl 5 rfl _ rfl _ rfl) rfl (by omega)) ⟨⟨_, rfl, rfl⟩, hT⟩
    | 7, _ => exact stepV rfl rfl (execLdB rfl (hdep _ rfl 6 rfl _ rfl _ rfl) ((cell_below hT hbV).trans c1)) ⟨⟨_, rfl, rfl⟩, hT⟩
    | 8, _ => exact stepV rfl rfl (execU8I rfl (hdep _ rfl 7 rfl _ rfl _ rfl) e1) ⟨⟨_, rfl, rfl⟩, hT⟩
    | 9, _ =>
      refine stepV rfl rfl (execOrI rfl (hdep _ rfl 4 rfl _ rfl _ rfl) (hdep _ rfl 8 rfl _ rfl _ rfl) e0 e1) ⟨⟨_, rfl, ?_⟩, hT⟩
      show _ = _
      simp only [inV]
      rw [en]
    | 10, _ => exact stepV rfl rfl (execAsgB rfl (hdep _ rfl 9 rfl _ rfl _ rfl)) ⟨⟨_, rfl, rfl⟩, hT⟩
    | n + 11, h => exact absurd h (by simp)
  · intro l W hall hT
    have BT : Hid (Below V.heap.size V W) := hT
    clear hall hT
    simp only [putP, inV, Act.put, List.setIfInBounds_toArray, List.set_cons_succ, List.set_cons_zero]
    by_cases hlong : N - 2 < n0
    · have i1 : (n0 : Int) > ((32 + N : Nat) : Int) - 34 := by have := HC.out; omega
      have O1 : Hid (OK = false) := by
        show OK = false
        rw [← HO.out.1]
        unfold inOk
        rw [HO.out.2, decide_eq_false (by omega), Bool.false_and]
      clear hlong
      go_wp2_with (go_at_call 32; refine (PR _).mono ?_; rintro e w3 ⟨rfl, hw3⟩; subst hw3)
      refine bodyPost_ret (results_tmp2 rfl _ _ _) rfl ⟨_, by rw [HE.out.2 O1.out]; rfl, fun q => (by rw [O1.out] at q; cases q), BT.out⟩
    · have i1 : ¬ (n0 : Int) > ((32 + N : Nat) : Int) - 34 := by have := HC.out; omega
      have hle : n0 + 2 ≤ N := by have := HC.out; omega
      obtain ⟨M, hM⟩ : ∃ M, N = 2 + n0 + M := ⟨N - (2 + n0), by omega⟩
      obtain ⟨ad, e1⟩ := cut_shape b off cap (2 + n0) N
      have sub1 := HV.out.1.sub (2 + n0) N (by omega) (Nat.le_refl _)
      rw [e1, show N - (2 + n0) = M by omega] at sub1
      have gL : ∀ W, (Instr.sliceAt 24 (.slice (some ⟨b, off, none⟩) N cap) (some (.int .i64 (2 + (n0 : Int)))) none none).run Tryz.prog W = .ok (.slice (some ad) M (cap - (2 + n0))) W := fun W => by
        have := By8.slice_l (some ⟨b, off, none⟩) N cap (2 + n0) (by omega) W
        rw [e1, show N - (2 + n0) = M by omega, show ((2 + n0 : Nat) : Int) = 2 + (n0 : Int) from by omega] at this
        exact this
      obtain ⟨ad2, e2⟩ := cut_shape b off cap 2 (2 + n0)
      have sub2 := HV.out.1.sub 2 (2 + n0) (by omega) (by omega)
      rw [e2, show 2 + n0 - 2 = n0 by omega] at sub2
      have gH : ∀ W, (Instr.sliceAt 24 (.slice (some ⟨b, off, none⟩) N cap) (some (.int .i64 2)) (some (.int .i64 (2 + (n0 : Int)))) none).run Tryz.prog W = .ok (.slice (some ad2) n0 (cap - 2)) W := fun W => by
        have := By8.slice_lh (some ⟨b, off, none⟩) N cap 2 (2 + n0) (by omega) (by have := HC.out; omega) W
        rw [e2, show 2 + n0 - 2 = n0 by omega, show ((2 + n0 : Nat) : Int) = 2 + (n0 : Int) from by omega] at this
        exact this
      have HS : Hid (SliceN V (.slice (some ad) M (cap - (2 + n0))) M (fun j => p (2 + n0 + j)) ∧ SliceN V (.slice (some ad2) n0 (cap - 2)) n0 (fun j => p (2 + j)) ∧ N = 2 + n0 + M) := ⟨sub1, sub2, hM⟩
      have l4 : (M : Int) ≤ 288 := by omega
      clear sub1 sub2 e1 e2 hlong hle hM
      go_wp2_with (go_at_call 32; refine (PR _).mono ?_; rintro e w3 ⟨rfl, hw3⟩; subst hw3)
      go_loopw [30] (fun x X => ∃ k : Nat, k ≤ M ∧ x = .int .i64 k ∧ (∀ j, j < k → p (2 + n0 + j) = 0) ∧ X = w3) (fun x _ => M - (intOf x).toNat)
      case atStart => exact ⟨0, by omega, rfl, fun j h2 => by omega, rfl⟩
      case round =>
        obtain ⟨k, hkb, rfl, hz, rfl⟩ := hrel
        by_cases hlt : k < M
        · have i3 : (k : Int) < M := by omega
          obtain ⟨a', c', e', _, _, e3⟩ := (HS.out.1.on BT.out).shape
          obtain ⟨b', o', rfl, _, hc⟩ := e3 (by omega)
          injection e' with e4
          injection e4 with e4
          subst e4
          obtain ⟨y, hy⟩ : ∃ y, p (2 + n0 + k) = y := ⟨_, rfl⟩
          have c1 : wr.cell? ⟨b', o' + k, none⟩ = some (.int .u8 y) := by rw [hc k hlt, hy]
          have HZ : Hid (∀ j, j < k → p (2 + n0 + j) = 0) := hz
          have HK : Hid (k < M) := hlt
          have HY : Hid (p (2 + n0 + k) = y) := hy
          clear hc hz hy hlt hkb e3
          by_cases h0 : y = 0
          · have z0 : ((y : Int) != 0) = false := by simp [h0]
            have H0 : Hid (y = 0) := h0
            clear h0
            go_wp2
            go_roundw
            case rel =>
              have a := HK.out
              refine ⟨k + 1, by omega, by go_num, fun j h2 => ?_, by first | rfl | trivial⟩
              by_cases e : j = k
              · subst e; rw [HY.out, H0.out]
              · exact HZ.out j (by omega)
            case measure => have := HK.out; simp [intOf]; omega
          · have z0 : ((y : Int) != 0) = true := by simp [h0]
            have O1 : Hid (OK = false) := by
              show OK = false
              rw [← HO.out.1]
              unfold inOk
              rw [HO.out.2]
              cases hz : zeroF N p (2 + n0) with
              | false => rw [Bool.and_false]
              | true =>
                have := (zeroF_iff N p (2 + n0)).1 hz (2 + n0 + k) (by omega) (by have := HK.out; have := HS.out.2.2; omega)
                rw [HY.out] at this
                exact absurd this h0
            go_wp2
            refine bodyPost_ret (results_tmp2 rfl _ _ _) rfl ⟨_, by rw [HE.out.2 O1.out]; rfl, fun q => (by rw [O1.out] at q; cases q), BT.out⟩
        · have i3 : ¬ (k : Int) < M := by omega
          have O1 : Hid (OK = true) := by
            show OK = true
            rw [← HO.out.1]
            unfold inOk
            rw [HO.out.2, decide_eq_true (by have := HS.out.2.2; omega), Bool.true_and]
            refine (zeroF_iff N p (2 + n0)).2 fun j h1 h2 => ?_
            have := hz (j - (2 + n0)) (by have := HS.out.2.2; omega)
            rw [show 2 + n0 + (j - (2 + n0)) = j by omega] at this
            exact this
          clear hz
          go_wp2
          refine bodyPost_ret (results_tmp2 rfl _ _ _) rfl ⟨_, by rw [HE.out.1 O1.out]; rfl, fun _ => ⟨HS.out.2.1, fun l c e => by cases e⟩, BT.out⟩
set_option maxRecDepth 20000 in
theorem nextCell_any (left : Int) (n : Nat) (p : Nat → Nat) (v : Value) (V : World) (h1 : 1 ≤ left) (hv : SliceZ V v n p) (hn : n ≤ 320) (hp : left ≤ 1 → n ≤ 48) :
    Calls Tryz.prog 55 #[.int .i64 left, v] V fun e w' => ∃ r, e = .returned (.tuple #[r, .int .i64 0]) ∧ w'.ownsRow V.heap.size 5 1 r 320 (bytesL 320 (nxF left n p)) ∧ Below V.heap.size V w' := by
  have HV : Hid (SliceZ V v n p) := hv
  have HN : Hid (n ≤ 320) := hn
  by_cases h : left > 1
  · have E : nxF left n p = cellF 0 headO n p := if_pos h
    rw [E]
    have C := pad_any p n v V HV.out (by have := HN.out; omega)
    rw [show okE 320 n = 0 from if_pos hn, show okN 320 n = 320 from if_pos hn] at C
    clear hv hn hp E h1
    go_enter Tryz.func55, Tryz.ntmps55
    go_wp2_with (go_at_call 17; refine C.mono ?_; rintro e w1 ⟨r, rfl, own, hb1⟩)
    refine bodyPost_ret (results_tmp2 rfl _ _ _) rfl ⟨_, rfl, own, hb1⟩
  · have E : nxF left n p = cellF 2 (headP n) n p := if_neg h
    have h48 := hp (by omega)
    rw [E]
    have C := plain_any p n v V HV.out (by have := HN.out; omega)
    rw [show okE 48 n = 0 from if_pos h48, show okN 48 n = 320 from if_pos h48] at C
    clear hv hn hp E h1 h48
    go_enter Tryz.func55, Tryz.ntmps55
    go_wp2_with (go_at_call 69; refine C.mono ?_; rintro e w1 ⟨r, rfl, own, hb1⟩)
    refine bodyPost_ret (results_tmp2 rfl _ _ _) rfl ⟨_, rfl, own, hb1⟩
end Go.Proofs.YteekoabgbjbabaaGreatDoor.Oni

namespace Go.Proofs.YteekoabgbjbabaaGreatDoor.Oni
open Go.RowKit Gf8 Aes By8 Cel
/- peeled, Peel. -/

theorem strN_inj {p q : Nat → Nat} {n : Nat} (hp : ∀ j, j < n → p j < 256) (hq : ∀ j, j < n → q j < 256) (h : strN p n = strN q n) : ∀ j, j < n → p j = q j := by
  intro j hj
  have h1 := congrArg (fun s => s.data.toList[j]?) h
  simp only [strN, strOfNums_data, numL, List.map_map, List.getElem?_map, List.getElem?_range hj, Option.map_some, Function.comp, Int.toNat_natCast, Option.some.injEq] at h1
  have h2 := congrArg UInt8.toNat h1
  simp only [UInt8.toNat_ofNat'] at h2
  have := hp j hj
  have := hq j hj
  omega
theorem list_inj {p q : Nat → Nat} {n : Nat} (hp : ∀ j, j < n → p j < 256) (hq : ∀ j, j < n → q j < 256) (h : (strN p n).toList = (strN q n).toList) : ∀ j, j < n → p j = q j := by
  refine strN_inj hp hq ?_
  have e : ∀ xs : List Int, (strOfNums xs).toList = (strOfNums xs).data.toList := fun xs => by rw [Go.Lib.strOfNums_toList]; rfl
  unfold strN at h ⊢
  rw [e, e] at h
  have : (strOfNums (numL p n)).data = (strOfNums (numL q n)).data := Array.toList_inj.1 h
  exact ByteArray.ext this
theorem eqB_iff {n : Nat} {f g : Nat → Nat} : eqB n f g = true ↔ ∀ j, j < n → f j = g j := by
  constructor
  · intro h j hj
    unfold eqB at h
    rw [List.all_eq_true] at h
    have := h j (List.mem_range.2 hj)
    simp at this
    omega
  · exact eqB_true
theorem str_eqB {n : Nat} {f g : Nat → Nat} (hf : ∀ j, j < n → f j < 256) (hg : ∀ j, j < n → g j < 256) : ((strP (ci f) n).toList == (strP (ci g) n).toList) = eqB n f g := by
  cases h : eqB n f g with
  | true =>
    have e : strP (ci f) n = strP (ci g) n := strN_congr (eqB_iff.1 h)
    rw [e]
    simp
  | false =>
    rw [beq_eq_false_iff_ne]
    intro e
    have := eqB_iff.2 (list_inj hf hg e)
    rw [h] at this
    cases this
theorem pequal_any (vk vm : Value) (n : Nat) (f g : Nat → Nat) (w : World) (h1 : SliceN w vk n f) (h2 : SliceN w vm n g) :
    Calls Tryz.prog 53 #[vk, vm] w fun e w' => e = .returned (.bool (eqB n f g)) ∧ w' = w := by
  have h := mequal_any vk vm n n (ci f) (ci g) w (toB h1) (toB h2)
  rw [str_eqB h1.bytes h2.bytes] at h
  exact h
/-- A Peeled's cells. -/
def pC (cv : Value) (r : Nat → Nat) : Array Value := (cv :: bytesL 16 r).toArray
theorem pC_size (cv : Value) (r : Nat → Nat) : (pC cv r).size = 17 := by simp [pC, bytesL_len]
theorem sizeP (cv : Value) (r : Nat → Nat) : (Tryz.prog.info? 51).map (·.size) = some (pC cv r).size := by rw [pC_size]; kernel_rfl
theorem pC_one {cv : Value} (r : Nat → Nat) (h : cv.oneCell' = true) : (pC cv r).all (·.oneCell') = true := by
  rw [pC, Array.all_eq_true_iff_forall_mem]
  intro x hx
  simp only [List.mem_toArray, List.mem_cons] at hx
  rcases hx with rfl | hx
  · exact h
  · unfold bytesL at hx
    obtain ⟨k, _, rfl⟩ := List.mem_map.1 hx
    rfl
theorem zeroP : ∀ w, (zeroValue 51).run Tryz.prog w = .ok (.agg (pC (.slice none 0 0) fun _ => 0)) w := by
  intro w
  simp [go_sem]
  rfl
theorem pC_ne (cv : Value) (r : Nat → Nat) : ¬ pC cv r = #[] := fun e => by
  have := pC_size cv r
  rw [e] at this
  simp at this
theorem fold_pC (v : Value) (r : Nat → Nat) : Array.foldl (fun cs (x : Value × Nat) => cs.setIfInBounds (1 + x.snd) x.fst) ((pC (.slice none 0 0) fun _ => 0).setIfInBounds 0 v) (bA 16 r).zipIdx 0 16 = pC v r := by kernel_rfl
section
variable {o : Oper} {a : Act} {w : World}
theorem execBP0 (ho : o.op = .build 51 #[]) : (execOp a.eval o).run Tryz.prog w = .ok (.value (.agg (pC (.slice none 0 0) fun _ => 0))) w := by
  have h := zeroP
  unfold execOp
  simp only [ho]
  simp [go_sem, h]
theorem execBP {x y : Operand} {ao : Option Addr} {n c : Nat} {r : Nat → Nat} (ho : o.op = .build 51 #[(0, x), (1, y)]) (hx : a.eval x = .slice ao n c) (hy : a.eval y = .agg (bA 16 r)) : (execOp a.eval o).run Tryz.prog w = .ok (.value (.agg (pC (.slice ao n c) r))) w := by
  have h := zeroP
  unfold execOp
  simp only [ho, List.map_toArray, List.map_cons, List.map_nil, hx, hy]
  simp [go_sem, h, pC_ne, bA_size, pC_size, fold_pC]
end
theorem sl_h16 (b off len cap : Nat) (h : 16 ≤ cap) (W : World) : (Instr.sliceAt 24 (.slice (some ⟨b, off, none⟩) len cap) none (some (.int .i64 16)) none).run Tryz.prog W = .ok (.slice (some ⟨b, off, none⟩) 16 cap) W := by
  have h1 := By8.slice_h (some ⟨b, off, none⟩) len cap 16 h W
  have e : sliced (some ⟨b, off, none⟩) 0 16 cap 1 = .slice (some ⟨b, off, none⟩) 16 cap := by
    unfold sliced
    split <;> simp [Addr.add_mid]
  rw [e] at h1
  exact h1
theorem sl_lh16 (b off len cap : Nat) (h : 32 ≤ cap) (W : World) : (Instr.sliceAt 24 (.slice (some ⟨b, off, none⟩) len cap) (some (.int .i64 16)) (some (.int .i64 32)) none).run Tryz.prog W = .ok (.slice (some ⟨b, off + 16, none⟩) 16 (cap - 16)) W := by
  have h1 := By8.slice_lh (some ⟨b, off, none⟩) len cap 16 32 (by omega) h W
  have e : sliced (some ⟨b, off, none⟩) 16 32 cap 1 = .slice (some ⟨b, off + 16, none⟩) 16 (cap - 16) := by
    unfold sliced
    rw [if_neg (by omega)]
    simp [Addr.add_mid]
  rw [e] at h1
  exact h1
/-- What the region that parts the onion knows. -/
def peD (ov v16 vbox : Value) (g : Nat) (c : Nat → Nat) (W0 : World) (l : Nat → Bool) (x : Nat → Value) (W : World) : Prop :=
  (l 0 = true → x 0 = ov) ∧ (l 1 = true → x 1 = v16) ∧ (l 2 = true → x 2 = .pointer (some ⟨g, 0, none⟩)) ∧ (l 3 = true → x 3 = .agg (bA 16 c)) ∧ (l 4 = true → x 4 = ov) ∧ (l 5 = true → x 5 = vbox) ∧
  (l 6 = true → ∃ I, x 6 = .pointer (some ⟨I, 0, none⟩) ∧ W0.heap.size ≤ I ∧ (l 7 = false → W.heap[I]? = some (.cells (bA 16 fun _ => 0) 35)) ∧ (l 7 = true → W.heap[I]? = some (.cells (bA 16 c) 35))) ∧ (l 8 = true → x 8 = vbox) ∧ Below W0.heap.size W0 W
def eqV (ov v1 v2 : Value) (b : Bool) (j : Nat) : Value :=
  match j with
  | 0 => ov | 1 => v1 | 2 => v2 | 3 => .bool b | _ => .bool (!b)
theorem execNotB {o : Oper} {a : Act} {w : World} {x : Operand} {b : Bool} (ho : o.op = .unOp .not 4 x) (hx : a.eval x = .bool b) : (execOp a.eval o).run Tryz.prog w = .ok (.value (.bool (!b))) w := by
  unfold execOp
  simp only [ho, hx]
  simp [go_sem]
end Go.Proofs.YteekoabgbjbabaaGreatDoor.Oni
