import Derived.Test.YtejhbfbnljioeaaGreatDoorX5i
import Derived.Lib.Bytes
namespace Go.Proofs.YtejhbfbnljioeaaGreatDoor.Oni
open Go.RowKit Gf8 Aes By8 Cel
/- inside, nextCell. -/

theorem ofInt_i64 {a : Nat} (ha : a < 18446744073709551616) : (BitVec.ofInt 64 (a : Int)).toNat = a := by
  rw [BitVec.ofInt_natCast, BitVec.toNat_ofNat]; exact Nat.mod_eq_of_lt (by omega)
theorem or_add8 (a b : Nat) (hb : b < 256) : a * 256 ||| b = a * 256 + b := by
  have := Nat.shiftLeft_add_eq_or_of_lt (i := 8) hb a
  rw [Nat.shiftLeft_eq] at this
  exact this.symm
theorem or_i64 {a b : Nat} (ha : a < 9223372036854775808) (hb : b < 9223372036854775808) : bits .or .i64 (a : Int) (b : Int) = ((a ||| b : Nat) : Int) := by
  have hlt : a ||| b < 9223372036854775808 := Nat.or_lt_two_pow (n := 63) ha hb
  show IntKind.i64.wrap ((BitVec.ofInt 64 (a : Int) ||| BitVec.ofInt 64 (b : Int)).toNat : Int) = _
  rw [BitVec.toNat_or, ofInt_i64 (by omega), ofInt_i64 (by omega)]
  simp [IntKind.wrap, IntKind.bits, IntKind.signed]
  omega
section
variable {o : Oper} {a : Act} {w : World}
theorem execU8I {x : Operand} {p : Nat} (ho : o.op = .convert 5 3 x) (hx : a.eval x = .int .u8 p) (h : p < 256) : (execOp a.eval o).run Tryz.prog w = .ok (.value (.int .i64 (p : Int))) w := by
  unfold execOp
  simp only [ho, hx]
  simp [go_sem]
  simp [IntKind.wrap, IntKind.bits, IntKind.signed]
  rw [if_neg (by omega)]
  omega
theorem execShl8 {x : Operand} {n : Nat} (ho : o.op = .binOp .shl 3 x (.const (.int .u64 8)) 73) (hx : a.eval x = .int .i64 (n : Int)) (hn : n < 65536) : (execOp a.eval o).run Tryz.prog w = .ok (.value (.int .i64 ((n * 256 : Nat) : Int))) w := by
  have e : IntKind.i64.wrap ((n : Int) * 256) = (n : Int) * 256 := by simp [IntKind.wrap, IntKind.bits, IntKind.signed]; omega
  unfold execOp
  simp only [ho, hx]
  simp [go_sem, e]
theorem execOrI {x y : Operand} {p q : Nat} (ho : o.op = .binOp .or 3 x y 3) (hx : a.eval x = .int .i64 ((p * 256 : Nat) : Int)) (hy : a.eval y = .int .i64 (q : Int)) (hp : p < 256) (hq : q < 256) : (execOp a.eval o).run Tryz.prog w = .ok (.value (.int .i64 ((p * 256 + q : Nat) : Int))) w := by
  have e := or_i64 (a := p * 256) (b := q) (by omega) (by omega)
  rw [or_add8 _ _ hq] at e
  unfold execOp
  simp only [ho, hx, hy]
  simp [go_sem] at e ⊢
  rw [e]
end
def inV (v : Value) (b off p0 p1 n0 : Nat) (j : Nat) : Value :=
  match j with
  | 0 => v | 1 => .pointer (some ⟨b, off + 0, none⟩) | 2 => .int .u8 p0 | 3 => .int .i64 p0 | 4 => .int .i64 ((p0 * 256 : Nat) : Int) | 5 => v | 6 => .pointer (some ⟨b, off + 1, none⟩) | 7 => .int .u8 p1 | 8 => .int .i64 p1 | _ => .int .i64 n0
set_option maxRecDepth 20000 in
set_option maxHeartbeats 1000000 in
theorem inside_any (left : Int) (N : Nat) (p : Nat → Nat) (v : Value) (V : World) (hs : sz left = 32 + N) (hN : 50 ≤ N ∧ N ≤ 288) (hv : SliceN V v N p) :
    Calls Tryz.prog 32 #[.int .i64 left, v] V fun e w' => ∃ r, e = .returned (.tuple #[r, .int .i64 ((if inOk N p then 0 else 71 : Nat) : Int)]) ∧ (inOk N p = true → SliceZ V r (inN p) fun j => p (2 + j)) ∧ Below V.heap.size V w' := by
  obtain ⟨b, off, cap, rfl, hc1, hc2, hc⟩ := cell_at hv (by omega)
  obtain ⟨p0, h0⟩ : ∃ p0, p 0 = p0 := ⟨_, rfl⟩
  obtain ⟨p1, h1⟩ : ∃ p1, p 1 = p1 := ⟨_, rfl⟩
  obtain ⟨n0, hn0⟩ : ∃ n0, inN p = n0 := ⟨_, rfl⟩
  have e0 : p0 < 256 := by rw [← h0]; exact hv.bytes 0 (by omega)
  have e1 : p1 < 256 := by rw [← h1]; exact hv.bytes 1 (by omega)
  have en : n0 = p0 * 256 + p1 := by rw [← hn0]; unfold inN; rw [h0, h1]
  have c0 := hc 0 (by omega)
  have c1 := hc 1 (by omega)
  rw [h0] at c0
  rw [h1] at c1
  have PR := proom_any left
  rw [hs] at PR
  have HC : Hid (V.cell? ⟨b, off + 0, none⟩ = some (.int .u8 p0) ∧ V.cell? ⟨b, off + 1, none⟩ = some (.int .u8 p1) ∧ p0 < 256 ∧ p1 < 256 ∧ n0 = p0 * 256 + p1 ∧ N ≤ cap ∧ 50 ≤ N ∧ N ≤ 288 ∧ b < V.heap.size) := ⟨c0, c1, e0, e1, en, hc1, hN.1, hN.2, by obtain ⟨a', c', e', _, _, e3⟩ := hv.shape; obtain ⟨b', o', e'', hb', _⟩ := e3 (by omega); injection e' with e4; rw [e''] at e4; injection e4 with e5; injection e5 with e6 _; rw [e6]; exact hb'⟩
  have HV : Hid (SliceN V (.slice (some ⟨b, off, none⟩) N cap) N p ∧ ∀ j, j < N → V.cell? ⟨b, off + j, none⟩ = some (.int .u8 (p j))) := ⟨hv, hc⟩
  have l1 : (N : Int) ≤ 288 := by omega
  have ln : (n0 : Int) ≤ 65535 := by omega
  obtain ⟨OK, hOK⟩ : ∃ OK, inOk N p = OK := ⟨_, rfl⟩
  have HO : Hid (inOk N p = OK ∧ inN p = n0) := ⟨hOK, hn0⟩
  rw [hOK, hn0]
  obtain ⟨E, hE⟩ : ∃ E : Nat, (if OK = true then 0 else 71) = E := ⟨_, rfl⟩
  have HE : Hid ((OK = true → E = 0) ∧ (OK = false → E = 71)) := ⟨fun q => by rw [← hE, if_pos q], fun q => by rw [← hE, q]; rfl⟩
  rw [hE]
  clear hE
  clear hv hc hc1 hc2 e0 e1 en c0 c1 hN h0 h1 hs hOK hn0
  go_enter Tryz.func32, Tryz.ntmps32
  go_wp2_with fail
  refine wp_region_det 40 [(0, 10), (1, 11), (2, 12), (3, 13), (4, 14), (5, 15), (6, 16), (7, 17), (8, 18), (9, 19), (10, 6)] (inV (.slice (some ⟨b, off, none⟩) N cap) b off p0 p1 n0) (fun _ W => Below V.heap.size V W) (by kernel_rfl) (by kernel_rfl) rfl (by kernel_rfl) (by decide) (by decide) ?_ ?_ ?_
  · exact (Below.refl _ _).drew
  · intro j hj l a W hl hf hdep hl2 hcl _ hT
    obtain ⟨c0, c1, e0, e1, en, hcap, hN1, hN2, hbV⟩ := HC.out
    match j, hj with
    | 0, _ => exact stepV rfl rfl (execMvB rfl (hf 1 (by decide))) ⟨⟨_, rfl, rfl⟩, hT⟩
    | 1, _ => exact stepV rfl rfl (execIdxS (k := 0) rfl (hdep _ rfl 0 rfl _ rfl _ rfl) rfl (by omega)) ⟨⟨_, rfl, rfl⟩, hT⟩
    | 2, _ => exact stepV rfl rfl (execLdB rfl (hdep _ rfl 1 rfl _ rfl _ rfl) ((cell_below hT hbV).trans c0)) ⟨⟨_, rfl, rfl⟩, hT⟩
    | 3, _ => exact stepV rfl rfl (execU8I rfl (hdep _ rfl 2 rfl _ rfl _ rfl) e0) ⟨⟨_, rfl, rfl⟩, hT⟩
    | 4, _ => exact stepV rfl rfl (execShl8 rfl (hdep _ rfl 3 rfl _ rfl _ rfl) (by omega)) ⟨⟨_, rfl, rfl⟩, hT⟩
    | 5, _ => exact stepV rfl rfl (execMvB rfl (hf 1 (by decide))) ⟨⟨_, rfl, rfl⟩, hT⟩
    | 6, _ => exact stepV rfl rfl (execIdxS (k := 1) rfl (hdep _ rfl 5 rfl _ rfl _ rfl) rfl (by omega)) ⟨⟨_, rfl, rfl⟩, hT⟩
    | 7, _ => exact stepV rfl rfl (execLdB rfl (hdep _ rfl 6 rfl _ rfl _ rfl) ((cell_below hT hbV).trans c1)) ⟨⟨_, rfl, rfl⟩, hT⟩
    | 8, _ => exact stepV rfl rfl (execU8I rfl (hdep _ rfl 7 rfl _ rfl _ rfl) e1) ⟨⟨_, rfl, rfl⟩, hT⟩
    | 9, _ =>
      refine stepV rfl rfl (execOrI rfl (hdep _ rfl 4 rfl _ rfl _ rfl) (hdep _ rfl 8 rfl _ rfl _ rfl) e0 e1) ⟨⟨_, rfl, ?_⟩, hT⟩
      show _ = _
      simp only [inV]
      rw [en]
    | 10, _ => exact stepV rfl rfl (execAsgB rfl (hdep _ rfl 9 rfl _ rfl _ rfl)) ⟨⟨_, rfl, rfl⟩, hT⟩
    | n + 11, h => exact absurd h (by simp)
  · intro l W hall hT
    have BT : Hid (Below V.heap.size V W) := hT
    clear hall hT
    simp only [putP, inV, Act.put, List.setIfInBounds_toArray, List.set_cons_succ, List.set_cons_zero]
    by_cases hlong : N - 2 < n0
    · have i1 : (n0 : Int) > ((32 + N : Nat) : Int) - 34 := by have := HC.out; omega
      have O1 : Hid (OK = false) := by
        show OK = false
        rw [← HO.out.1]
        unfold inOk
        rw [HO.out.2, decide_eq_false (by omega), Bool.false_and]
      clear hlong
      go_wp2_with (go_at_call 55; refine (PR _).mono ?_; rintro e w3 ⟨rfl, hw3⟩; subst hw3)
      refine bodyPost_ret (results_tmp2 rfl _ _ _) rfl ⟨_, by rw [HE.out.2 O1.out]; rfl, fun q => (by rw [O1.out] at q; cases q), BT.out⟩
    · have i1 : ¬ (n0 : Int) > ((32 + N : Nat) : Int) - 34 := by have := HC.out; omega
      have hle : n0 + 2 ≤ N := by have := HC.out; omega
      obtain ⟨M, hM⟩ : ∃ M, N = 2 + n0 + M := ⟨N - (2 + n0), by omega⟩
      obtain ⟨ad, e1⟩ := cut_shape b off cap (2 + n0) N
      have sub1 := HV.out.1.sub (2 + n0) N (by omega) (Nat.le_refl _)
      rw [e1, show N - (2 + n0) = M by omega] at sub1
      have gL : ∀ W, (Instr.sliceAt 22 (.slice (some ⟨b, off, none⟩) N cap) (some (.int .i64 (2 + (n0 : Int)))) none none).run Tryz.prog W = .ok (.slice (some ad) M (cap - (2 + n0))) W := fun W => by
        have := By8.slice_l (some ⟨b, off, none⟩) N cap (2 + n0) (by omega) W
        rw [e1, show N - (2 + n0) = M by omega, show ((2 + n0 : Nat) : Int) = 2 + (n0 : Int) from by omega] at this
        exact this
      obtain ⟨ad2, e2⟩ := cut_shape b off cap 2 (2 + n0)
      have sub2 := HV.out.1.sub 2 (2 + n0) (by omega) (by omega)
      rw [e2, show 2 + n0 - 2 = n0 by omega] at sub2
      have gH : ∀ W, (Instr.sliceAt 22 (.slice (some ⟨b, off, none⟩) N cap) (some (.int .i64 2)) (some (.int .i64 (2 + (n0 : Int)))) none).run Tryz.prog W = .ok (.slice (some ad2) n0 (cap - 2)) W := fun W => by
        have := By8.slice_lh (some ⟨b, off, none⟩) N cap 2 (2 + n0) (by omega) (by have := HC.out; omega) W
        rw [e2, show 2 + n0 - 2 = n0 by omega, show ((2 + n0 : Nat) : Int) = 2 + (n0 : Int) from by omega] at this
        exact this
      have HS : Hid (SliceN V (.slice (some ad) M (cap - (2 + n0))) M (fun j => p (2 + n0 + j)) ∧ SliceN V (.slice (some ad2) n0 (cap - 2)) n0 (fun j => p (2 + j)) ∧ N = 2 + n0 + M) := ⟨sub1, sub2, hM⟩
      have l4 : (M : Int) ≤ 288 := by omega
      clear sub1 sub2 e1 e2 hlong hle hM
      go_wp2_with (go_at_call 55; refine (PR _).mono ?_; rintro e w3 ⟨rfl, hw3⟩; subst hw3)
      go_loopw [30] (fun x X => ∃ k : Nat, k ≤ M ∧ x = .int .i64 k ∧ (∀ j, j < k → p (2 + n0 + j) = 0) ∧ X = w3) (fun x _ => M - (intOf x).toNat)
      case atStart => exact ⟨0, by omega, rfl, fun j h2 => by omega, rfl⟩
      case round =>
        obtain ⟨k, hkb, rfl, hz, rfl⟩ := hrel
        by_cases hlt : k < M
        · have i3 : (k : Int) < M := by omega
          obtain ⟨a', c', e', _, _, e3⟩ := (HS.out.1.on BT.out).shape
          obtain ⟨b', o', rfl, _, hc⟩ := e3 (by omega)
          injection e' with e4
          injection e4 with e4
          subst e4
          obtain ⟨y, hy⟩ : ∃ y, p (2 + n0 + k) = y := ⟨_, rfl⟩
          have c1 : wr.cell? ⟨b', o' + k, none⟩ = some (.int .u8 y) := by rw [hc k hlt, hy]
          have HZ : Hid (∀ j, j < k → p (2 + n0 + j) = 0) := hz
          have HK : Hid (k < M) := hlt
          have HY : Hid (p (2 + n0 + k) = y) := hy
          clear hc hz hy hlt hkb e3
          by_cases h0 : y = 0
          · have z0 : ((y : Int) != 0) = false := by simp [h0]
            have H0 : Hid (y = 0) := h0
            clear h0
            go_wp2
            go_roundw
            case rel =>
              have a := HK.out
              refine ⟨k + 1, by omega, by go_num, fun j h2 => ?_, by first | rfl | trivial⟩
              by_cases e : j = k
              · subst e; rw [HY.out, H0.out]
              · exact HZ.out j (by omega)
            case measure => have := HK.out; simp [intOf]; omega
          · have z0 : ((y : Int) != 0) = true := by simp [h0]
            have O1 : Hid (OK = false) := by
              show OK = false
              rw [← HO.out.1]
              unfold inOk
              rw [HO.out.2]
              cases hz : zeroF N p (2 + n0) with
              | false => rw [Bool.and_false]
              | true =>
                have := (zeroF_iff N p (2 + n0)).1 hz (2 + n0 + k) (by omega) (by have := HK.out; have := HS.out.2.2; omega)
                rw [HY.out] at this
                exact absurd this h0
            go_wp2
            refine bodyPost_ret (results_tmp2 rfl _ _ _) rfl ⟨_, by rw [HE.out.2 O1.out]; rfl, fun q => (by rw [O1.out] at q; cases q), BT.out⟩
        · have i3 : ¬ (k : Int) < M := by omega
          have O1 : Hid (OK = true) := by
            show OK = true
            rw [← HO.out.1]
            unfold inOk
            rw [HO.out.2, decide_eq_true (by have := HS.out.2.2; omega), Bool.true_and]
            refine (zeroF_iff N p (2 + n0)).2 fun j h1 h2 => ?_
            have := hz (j - (2 + n0)) (by have := HS.out.2.2; omega)
            rw [show 2 + n0 + (j - (2 + n0)) = j by omega] at this
            exact this
          clear hz
          go_wp2
          refine bodyPost_ret (results_tmp2 rfl _ _ _) rfl ⟨_, by rw [HE.out.1 O1.out]; rfl, fun _ => ⟨HS.out.2.1, fun l c e => by cases e⟩, BT.out⟩
set_option maxRecDepth 20000 in
theorem nextCell_any (left : Int) (n : Nat) (p : Nat → Nat) (v : Value) (V : World) (h1 : 1 ≤ left) (hv : SliceZ V v n p) (hn : n ≤ 320) (hp : left ≤ 1 → n ≤ 48) :
    Calls Tryz.prog 34 #[.int .i64 left, v] V fun e w' => ∃ r, e = .returned (.tuple #[r, .int .i64 0]) ∧ w'.ownsRow V.heap.size 5 1 r 320 (bytesL 320 (nxF left n p)) ∧ Below V.heap.size V w' := by
  have HV : Hid (SliceZ V v n p) := hv
  have HN : Hid (n ≤ 320) := hn
  by_cases h : left > 1
  · have E : nxF left n p = cellF 0 headO n p := if_pos h
    rw [E]
    have C := pad_any p n v V HV.out (by have := HN.out; omega)
    rw [show okE 320 n = 0 from if_pos hn, show okN 320 n = 320 from if_pos hn] at C
    clear hv hn hp E h1
    go_enter Tryz.func34, Tryz.ntmps34
    go_wp2_with (go_at_call 57; refine C.mono ?_; rintro e w1 ⟨r, rfl, own, hb1⟩)
    refine bodyPost_ret (results_tmp2 rfl _ _ _) rfl ⟨_, rfl, own, hb1⟩
  · have E : nxF left n p = cellF 2 (headP n) n p := if_neg h
    have h48 := hp (by omega)
    rw [E]
    have C := plain_any p n v V HV.out (by have := HN.out; omega)
    rw [show okE 48 n = 0 from if_pos h48, show okN 48 n = 320 from if_pos h48] at C
    clear hv hn hp E h1 h48
    go_enter Tryz.func34, Tryz.ntmps34
    go_wp2_with (go_at_call 58; refine C.mono ?_; rintro e w1 ⟨r, rfl, own, hb1⟩)
    refine bodyPost_ret (results_tmp2 rfl _ _ _) rfl ⟨_, rfl, own, hb1⟩
end Go.Proofs.YtejhbfbnljioeaaGreatDoor.Oni

namespace Go.Proofs.YtejhbfbnljioeaaGreatDoor.Oni
open Go.RowKit Gf8 Aes By8 Cel
/- peeled, Peel. -/

theorem strN_inj {p q : Nat → Nat} {n : Nat} (hp : ∀ j, j < n → p j < 256) (hq : ∀ j, j < n → q j < 256) (h : strN p n = strN q n) : ∀ j, j < n → p j = q j := by
  intro j hj
  have h1 := congrArg (fun s => s.data.toList[j]?) h
  simp only [strN, strOfNums_data, numL, List.map_map, List.getElem?_map, List.getElem?_range hj, Option.map_some, Function.comp, Int.toNat_natCast, Option.some.injEq] at h1
  have h2 := congrArg UInt8.toNat h1
  simp only [UInt8.toNat_ofNat'] at h2
  have := hp j hj
  have := hq j hj
  omega
theorem list_inj {p q : Nat → Nat} {n : Nat} (hp : ∀ j, j < n → p j < 256) (hq : ∀ j, j < n → q j < 256) (h : (strN p n).toList = (strN q n).toList) : ∀ j, j < n → p j = q j := by
  refine strN_inj hp hq ?_
  have e : ∀ xs : List Int, (strOfNums xs).toList = (strOfNums xs).data.toList := fun xs => by rw [Go.Lib.strOfNums_toList]; rfl
  unfold strN at h ⊢
  rw [e, e] at h
  have : (strOfNums (numL p n)).data = (strOfNums (numL q n)).data := Array.toList_inj.1 h
  exact ByteArray.ext this
theorem eqB_iff {n : Nat} {f g : Nat → Nat} : eqB n f g = true ↔ ∀ j, j < n → f j = g j := by
  constructor
  · intro h j hj
    unfold eqB at h
    rw [List.all_eq_true] at h
    have := h j (List.mem_range.2 hj)
    simp at this
    omega
  · exact eqB_true
theorem str_eqB {n : Nat} {f g : Nat → Nat} (hf : ∀ j, j < n → f j < 256) (hg : ∀ j, j < n → g j < 256) : ((strP (ci f) n).toList == (strP (ci g) n).toList) = eqB n f g := by
  cases h : eqB n f g with
  | true =>
    have e : strP (ci f) n = strP (ci g) n := strN_congr (eqB_iff.1 h)
    rw [e]
    simp
  | false =>
    rw [beq_eq_false_iff_ne]
    intro e
    have := eqB_iff.2 (list_inj hf hg e)
    rw [h] at this
    cases this
theorem pequal_any (vk vm : Value) (n : Nat) (f g : Nat → Nat) (w : World) (h1 : SliceN w vk n f) (h2 : SliceN w vm n g) :
    Calls Tryz.prog 31 #[vk, vm] w fun e w' => e = .returned (.bool (eqB n f g)) ∧ w' = w := by
  have h := mequal_any vk vm n n (ci f) (ci g) w (toB h1) (toB h2)
  rw [str_eqB h1.bytes h2.bytes] at h
  exact h
/-- A Peeled's cells. -/
def pC (cv : Value) (r : Nat → Nat) : Array Value := (cv :: bytesL 16 r).toArray
theorem pC_size (cv : Value) (r : Nat → Nat) : (pC cv r).size = 17 := by simp [pC, bytesL_len]
theorem sizeP (cv : Value) (r : Nat → Nat) : (Tryz.prog.info? 46).map (·.size) = some (pC cv r).size := by rw [pC_size]; kernel_rfl
theorem pC_one {cv : Value} (r : Nat → Nat) (h : cv.oneCell' = true) : (pC cv r).all (·.oneCell') = true := by
  rw [pC, Array.all_eq_true_iff_forall_mem]
  intro x hx
  simp only [List.mem_toArray, List.mem_cons] at hx
  rcases hx with rfl | hx
  · exact h
  · unfold bytesL at hx
    obtain ⟨k, _, rfl⟩ := List.mem_map.1 hx
    rfl
theorem zeroP : ∀ w, (zeroValue 46).run Tryz.prog w = .ok (.agg (pC (.slice none 0 0) fun _ => 0)) w := by
  intro w
  simp [go_sem]
  rfl
theorem pC_ne (cv : Value) (r : Nat → Nat) : ¬ pC cv r = #[] := fun e => by
  have := pC_size cv r
  rw [e] at this
  simp at this
theorem fold_pC (v : Value) (r : Nat → Nat) : Array.foldl (fun cs (x : Value × Nat) => cs.setIfInBounds (1 + x.snd) x.fst) ((pC (.slice none 0 0) fun _ => 0).setIfInBounds 0 v) (bA 16 r).zipIdx 0 16 = pC v r := by kernel_rfl
section
variable {o : Oper} {a : Act} {w : World}
theorem execBP0 (ho : o.op = .build 46 #[]) : (execOp a.eval o).run Tryz.prog w = .ok (.value (.agg (pC (.slice none 0 0) fun _ => 0))) w := by
  have h := zeroP
  unfold execOp
  simp only [ho]
  simp [go_sem, h]
theorem execBP {x y : Operand} {ao : Option Addr} {n c : Nat} {r : Nat → Nat} (ho : o.op = .build 46 #[(0, x), (1, y)]) (hx : a.eval x = .slice ao n c) (hy : a.eval y = .agg (bA 16 r)) : (execOp a.eval o).run Tryz.prog w = .ok (.value (.agg (pC (.slice ao n c) r))) w := by
  have h := zeroP
  unfold execOp
  simp only [ho, List.map_toArray, List.map_cons, List.map_nil, hx, hy]
  simp [go_sem, h, pC_ne, bA_size, pC_size, fold_pC]
end
theorem sl_h16 (b off len cap : Nat) (h : 16 ≤ cap) (W : World) : (Instr.sliceAt 22 (.slice (some ⟨b, off, none⟩) len cap) none (some (.int .i64 16)) none).run Tryz.prog W = .ok (.slice (some ⟨b, off, none⟩) 16 cap) W := by
  have h1 := By8.slice_h (some ⟨b, off, none⟩) len cap 16 h W
  have e : sliced (some ⟨b, off, none⟩) 0 16 cap 1 = .slice (some ⟨b, off, none⟩) 16 cap := by
    unfold sliced
    split <;> simp [Addr.add_mid]
  rw [e] at h1
  exact h1
theorem sl_lh16 (b off len cap : Nat) (h : 32 ≤ cap) (W : World) : (Instr.sliceAt 22 (.slice (some ⟨b, off, none⟩) len cap) (some (.int .i64 16)) (some (.int .i64 32)) none).run Tryz.prog W = .ok (.slice (some ⟨b, off + 16, none⟩) 16 (cap - 16)) W := by
  have h1 := By8.slice_lh (some ⟨b, off, none⟩) len cap 16 32 (by omega) h W
  have e : sliced (some ⟨b, off, none⟩) 16 32 cap 1 = .slice (some ⟨b, off + 16, none⟩) 16 (cap - 16) := by
    unfold sliced
    rw [if_neg (by omega)]
    simp [Addr.add_mid]
  rw [e] at h1
  exact h1
/-- What the region that parts the onion knows. -/
def peD (ov v16 vbox : Value) (g : Nat) (c : Nat → Nat) (W0 : World) (l : Nat → Bool) (x : Nat → Value) (W : World) : Prop :=
  (l 0 = true → x 0 = ov) ∧ (l 1 = true → x 1 = v16) ∧ (l 2 = true → x 2 = .pointer (some ⟨g, 0, none⟩)) ∧ (l 3 = true → x 3 = .agg (bA 16 c)) ∧ (l 4 = true → x 4 = ov) ∧ (l 5 = true → x 5 = vbox) ∧
  (l 6 = true → ∃ I, x 6 = .pointer (some ⟨I, 0, none⟩) ∧ W0.heap.size ≤ I ∧ (l 7 = false → W.heap[I]? = some (.cells (bA 16 fun _ => 0) 44)) ∧ (l 7 = true → W.heap[I]? = some (.cells (bA 16 c) 44))) ∧ (l 8 = true → x 8 = vbox) ∧ Below W0.heap.size W0 W
def eqV (ov v1 v2 : Value) (b : Bool) (j : Nat) : Value :=
  match j with
  | 0 => ov | 1 => v1 | 2 => v2 | 3 => .bool b | _ => .bool (!b)
theorem execNotB {o : Oper} {a : Act} {w : World} {x : Operand} {b : Bool} (ho : o.op = .unOp .not 4 x) (hx : a.eval x = .bool b) : (execOp a.eval o).run Tryz.prog w = .ok (.value (.bool (!b))) w := by
  unfold execOp
  simp only [ho, hx]
  simp [go_sem]
end Go.Proofs.YtejhbfbnljioeaaGreatDoor.Oni

namespace Go.Proofs.YtejhbfbnljioeaaGreatDoor.Oni
open Go.RowKit Gf8 Aes By8 Cel
/- peeled, Peel. -/

set_option maxRecDepth 20000 in
set_option maxHeartbeats 2000000 in
theorem peeled_any (key c : Nat → Nat) (len L S N : Nat) (vk vc : Value) (V : World) (hG : Glob V) (hk : SliceN V vk 32 key) (hc : SliceZ V vc len c) (hb : len ≤ 140737488351232) (hS : sz (L : Int) = S) (hN : S = 32 + N ∧ 1 ≤ L ∧ L ≤ 8 ∧ N = 16 + 34 * L) :
    Calls Tryz.prog 18 #[vk, .int .i64 (L : Int), vc] V fun e w' => ∃ cv, e = .returned (.tuple #[.agg (pC cv (peR (peE 32 L len key c) key c)), .int .i64 (peE 32 L len key c : Nat)]) ∧ w'.ownsRow V.heap.size 5 1 cv (peN (peE 32 L len key c)) (bytesL (peN (peE 32 L len key c)) (peC L key c)) ∧ Below V.heap.size V w' := by
  obtain ⟨V1, hV1⟩ : ∃ V1, V.alloc (.cells (pC (.slice none 0 0) fun _ => 0) 46) = V1 := ⟨_, rfl⟩
  have r1 := heapNew V (.cells (pC (.slice none 0 0) fun _ => 0) 46)
  have b1 := belNew V (.cells (pC (.slice none 0 0) fun _ => 0) 46)
  have s1 : V1.heap.size = V.heap.size + 1 := by rw [← hV1]; simp
  rw [hV1] at r1 b1
  have C := cut_any c len (S : Int) vc V1 (hc.on b1) hb (by omega) (by omega)
  obtain ⟨CE, hCE⟩ : ∃ CE, cutE c len (S : Int) = CE := ⟨_, rfl⟩
  have PS := psize_any (L : Int)
  rw [hS] at PS
  have zp := zeroP
  have H : Hid (V1.heap[V.heap.size]? = some (.cells (pC (.slice none 0 0) fun _ => 0) 46) ∧ Below V.heap.size V V1 ∧ V1.heap.size = V.heap.size + 1) := ⟨r1, b1, s1⟩
  have E0 : peE 32 L len key c = if CE ≠ 0 then CE else if peT key L c = false then 70 else if inOk N (peP key c) = false then 71 else 0 := by
    unfold peE
    rw [if_neg (by rw [hS]; simp; omega), hS, hCE, show S - 32 = N by omega]
  obtain ⟨E, hE⟩ : ∃ E, peE 32 L len key c = E := ⟨_, rfl⟩
  rw [hE] at E0 ⊢
  have HV : Hid (Glob V ∧ SliceN V vk 32 key ∧ S = 32 + N ∧ 1 ≤ L ∧ L ≤ 8 ∧ N = 16 + 34 * L ∧ sz (L : Int) = S) := ⟨hG, hk, hN.1, hN.2.1, hN.2.2.1, hN.2.2.2, hS⟩
  have hcb := hc.sl.bytes
  clear hG hk hb hS r1 b1 s1 hE hc
  by_cases h0 : CE = 0
  · rw [if_neg (by simp [h0])] at E0
    have hcut : cutN c len (S : Int) = S := by unfold cutN; rw [hCE, if_pos h0]; simp
    have hl320 : len = 320 := by
      unfold cutE at hCE
      by_cases h : len = 320
      · exact h
      · rw [if_pos h] at hCE; omega
    have CB : Hid (∀ j, j < S → c j < 256) := fun j hj => hcb j (by omega)
    rw [hCE, h0, hcut] at C
    clear hcut hCE h0 hcb hl320 hN
    have PR : Hid (peR E key c = if E = 0 then hfF (rpK (dk key c)) c 32 else fun _ => 0) := rfl
    obtain ⟨D, hD⟩ : ∃ D, dk key c = D := ⟨_, rfl⟩
    have DL : Hid (∀ j, D j < 256) := by rw [← hD]; exact dk_lt key c
    obtain ⟨bx, hbx⟩ : ∃ bx : Nat → Nat, (fun j => c (32 + j)) = bx := ⟨_, rfl⟩
    obtain ⟨tg, htg⟩ : ∃ tg, tgF D L c bx N = tg := ⟨_, rfl⟩
    obtain ⟨pl, hpl⟩ : ∃ pl, bxF D bx = pl := ⟨_, rfl⟩
    have ePT : peT key L c = eqB 16 (fun j => c (16 + j)) tg := by
      unfold peT
      rw [hD, HV.out.2.2.2.2.2.2, show S - 32 = N by have := HV.out; omega, hbx, show (L : Int).toNat = L from by simp, htg]
    have ePP : peP key c = pl := by unfold peP; rw [hD, hbx, hpl]
    have bxl : ∀ j, j < N → bx j < 256 := fun j hj => by rw [← hbx]; exact CB.out _ (by have := HV.out; omega)
    obtain ⟨TB, hTB⟩ : ∃ TB, eqB 16 (fun j => c (16 + j)) tg = TB := ⟨_, rfl⟩
    rw [ePT, hTB, ePP] at E0
    have ePC : peC L key c = nxF L (inN pl) fun j => pl (2 + j) := by unfold peC; rw [ePP]
    rw [ePC]
    have HD : Hid (dk key c = D ∧ tgF D L c bx N = tg ∧ bxF D bx = pl ∧ (∀ j, c (32 + j) = bx j) ∧ (∀ j, j < N → bx j < 256) ∧ eqB 16 (fun j => c (16 + j)) tg = TB ∧ (∀ j, tg j < 256)) := ⟨hD, htg, hpl, fun j => by rw [← hbx], bxl, hTB, by rw [← htg]; exact tgF_lt _ _ _ _ _⟩
    have zk := zeroK
    have z16 := zero16
    rw [hD] at PR
    have HE : Hid (E = if TB = false then 70 else if inOk N pl = false then 71 else 0) := E0
    clear hD hbx htg hpl ePT ePP bxl hTB ePC E0
    go_enter Tryz.func18, Tryz.ntmps18
    go_wp2_with (first
      | (go_at_call 17; refine (PS _).mono ?_; rintro e w2 ⟨rfl, hw2⟩; rw [hw2]; clear hw2)
      | (go_at_call 28; refine C.mono ?_; rintro e w1 ⟨r, rfl, own, hb1⟩; obtain ⟨g, cap, rfl, hB, hcap, cells⟩ := own_cells own (by have := HV.out; omega); have O1 : Hid (SliceN w1 (.slice (some ⟨g, 0, none⟩) S cap) S c ∧ Below V1.heap.size V1 w1 ∧ S ≤ cap ∧ g < w1.heap.size ∧ V1.heap.size ≤ g ∧ ∀ j, j < S → w1.cell? ⟨g, j, none⟩ = some (.int .u8 (c j))) := ⟨own_slice own CB.out, hb1, hcap, (own.lt g rfl).2, hB, cells⟩; clear own hb1 hcap hB cells))
    have X1 : Hid (w1.heap[V.heap.size]? = some (.cells (pC (.slice none 0 0) fun _ => 0) 46) ∧ Below V.heap.size V w1 ∧ V.heap.size < w1.heap.size) := ⟨by rw [O1.out.2.1.block _ (by have := H.out.2.2; omega)]; exact H.out.1, H.out.2.1.trans (O1.out.2.1.mono H.out.2.1.size), by have := O1.out.2.1.size; have := H.out.2.2; omega⟩
    have sb := partN O1.out.1 (k := 32) (by have := HV.out; omega)
    rw [show S - 32 = N by have := HV.out; omega, Nat.zero_add] at sb
    have sbx : SliceN w1 (.slice (some ⟨g, 32, none⟩) N (cap - 32)) N bx := sliceN_cg sb (fun j _ => HD.out.2.2.2.1 j)
    have st16 : SliceN w1 (.slice (some ⟨g, 16, none⟩) 16 (cap - 16)) 16 (fun j => c (16 + j)) := by
      have h1 := partN O1.out.1 (k := 16) (by have := HV.out; omega)
      rw [Nat.zero_add] at h1
      exact takeN h1 (by have := HV.out; omega)
    have SB : Hid (SliceN w1 (.slice (some ⟨g, 32, none⟩) N (cap - 32)) N bx ∧ SliceN w1 (.slice (some ⟨g, 16, none⟩) 16 (cap - 16)) 16 (fun j => c (16 + j))) := ⟨sbx, st16⟩
    clear sb sbx st16
    refine wp_region_detX 81 [(0, 27), (1, 28), (2, 29), (3, 30), (4, 31), (5, 32), (6, 10), (8, 11)] (peD (.slice (some ⟨g, 0, none⟩) S cap) (.slice (some ⟨g, 0, none⟩) 16 cap) (.slice (some ⟨g, 32, none⟩) N (cap - 32)) g c w1) (fun _ => undef) (by kernel_rfl) (by kernel_rfl) rfl (by kernel_rfl) (by decide) (by decide) ?_ ?_ ?_
    · exact ⟨fun q => (by cases q), fun q => (by cases q), fun q => (by cases q), fun q => (by cases q), fun q => (by cases q), fun q => (by cases q), fun q => (by cases q), fun q => (by cases q), (Below.refl _ _).drew⟩
    · intro j hj l x a W hl hf hdep hl2 hcl _ hT
      obtain ⟨t0, t1, t2, t3, t4, t5, t6, t8, tb⟩ := hT
      have n7 : l 6 = false → l 7 = false := fun q => by
        cases h : l 7 with
        | false => rfl
        | true =>
          have := hcl 7 _ rfl h 6 rfl
          rw [q] at this
          cases this
      match j, hj with
      | 0, _ => exact stepV rfl rfl (execMvB rfl (hf 8 (by decide))) ⟨_, ⟨_, rfl, rfl⟩, fun _ => rfl, t1, t2, t3, t4, t5, t6, t8, tb⟩
      | 1, _ => exact stepV rfl rfl (By8.execSlH rfl ((hdep _ rfl 0 rfl _ rfl _ rfl).trans (t0 (hl2 _ rfl 0 rfl))) rfl (sl_h16 g 0 S cap (by have := HV.out; have := O1.out.2.2.1; omega) W)) ⟨_, ⟨_, rfl, rfl⟩, t0, fun _ => rfl, t2, t3, t4, t5, t6, t8, tb⟩
      | 2, _ => exact stepV rfl rfl (execArr16 rfl ((hdep _ rfl 1 rfl _ rfl _ rfl).trans (t1 (hl2 _ rfl 1 rfl))) (by omega)) ⟨_, ⟨_, rfl, rfl⟩, t0, t1, fun _ => rfl, t3, t4, t5, t6, t8, tb⟩
      | 3, _ => exact stepV rfl rfl (execLdList (k := 16) (q := c) rfl ((hdep _ rfl 2 rfl _ rfl _ rfl).trans (t2 (hl2 _ rfl 2 rfl))) (fun j hj => by rw [Nat.zero_add, cell_below tb O1.out.2.2.2.1]; exact O1.out.2.2.2.2.2 j (by have := HV.out; omega)) Tryz.underlying44 rfl (by kernel_rfl)) ⟨_, ⟨_, rfl, rfl⟩, t0, t1, t2, fun _ => rfl, t4, t5, t6, t8, tb⟩
      | 4, _ => exact stepV rfl rfl (execMvB rfl (hf 8 (by decide))) ⟨_, ⟨_, rfl, rfl⟩, t0, t1, t2, t3, fun _ => rfl, t5, t6, t8, tb⟩
      | 5, _ =>
        have q := sl_lk g 0 S cap 32 (by have := HV.out; omega) (by have := HV.out; have := O1.out.2.2.1; omega) W
        rw [show S - 32 = N by have := HV.out; omega, Nat.zero_add] at q
        exact stepV rfl rfl (By8.execSlL rfl ((hdep _ rfl 4 rfl _ rfl _ rfl).trans (t4 (hl2 _ rfl 4 rfl))) rfl q) ⟨_, ⟨_, rfl, rfl⟩, t0, t1, t2, t3, t4, fun _ => rfl, t6, t8, tb⟩
      | 6, _ =>
        refine stepV rfl rfl (execAl16 rfl) ⟨_, ⟨_, rfl, rfl⟩, t0, t1, t2, t3, t4, t5, fun _ => ⟨W.heap.size, rfl, tb.size, fun _ => heapNew _ _, fun q => ?_⟩, t8, tb.trans ((belNew W _).mono tb.size)⟩
        have q' : l 7 = true := q
        rw [n7 hl] at q'; cases q'
      | 7, _ =>
        obtain ⟨I, e6, lI, r1, _⟩ := t6 (hl2 _ rfl 6 rfl)
        have r1 := r1 hl
        refine stepS rfl rfl (execStAll (cells := bA 16 c) rfl ((hdep _ rfl 6 rfl _ rfl _ rfl).trans e6) ((hdep _ rfl 3 rfl _ rfl _ rfl).trans (t3 (hl2 _ rfl 3 rfl))) r1 (by rw [bA_size, bA_size]) (size16 _) (bA_one _ _)) ⟨_, ⟨_, rfl, rfl⟩, t0, t1, t2, t3, t4, t5, fun _ => ⟨I, e6, lI, fun q => (by cases q), fun _ => setRow_heap _ _ _ _ _ _ r1⟩, t8, below4 tb lI _⟩
      | 8, _ => exact stepV rfl rfl (execAsgB rfl ((hdep _ rfl 5 rfl _ rfl _ rfl).trans (t5 (hl2 _ rfl 5 rfl)))) ⟨_, ⟨_, rfl, rfl⟩, t0, t1, t2, t3, t4, t5, t6, fun _ => rfl, tb⟩
      | n + 9, h => exact absurd h (by simp)
    · intro l x W hall hT
      obtain ⟨t0, t1, t2, t3, t4, t5, t6, t8, tb⟩ := hT
      have e0 := t0 (hall 0 (by simp))
      have e1 := t1 (hall 1 (by simp))
      have e2 := t2 (hall 2 (by simp))
      have e3 := t3 (hall 3 (by simp))
      have e4 := t4 (hall 4 (by simp))
      have e5 := t5 (hall 5 (by simp))
      have e8 := t8 (hall 8 (by simp))
      obtain ⟨I, e6, lI, _, rI⟩ := t6 (hall 6 (by simp))
      have rI := rI (hall 7 (by simp))
      have XW : Hid (W.heap[I]? = some (.cells (bA 16 c) 44) ∧ Below w1.heap.size w1 W ∧ I < W.heap.size ∧ w1.heap.size ≤ I ∧ Below V.heap.size V W) := ⟨rI, tb, (Array.getElem?_eq_some_iff.1 rI).1, lI, X1.out.2.1.trans (tb.mono X1.out.2.1.size)⟩
      have DR := pder_ok key c vk W (HV.out.1.below XW.out.2.2.2.2 HV.out.1.sz) (fun j hj => CB.out j (by have := HV.out; omega)) (HV.out.2.1.on XW.out.2.2.2.2)
      rw [HD.out.1] at DR
      clear hall t0 t1 t2 t3 t4 t5 t6 t8 tb lI rI
      simp only [putP, e0, e1, e2, e3, e4, e5, e6, e8, Act.put, List.setIfInBounds_toArray, List.set_cons_succ, List.set_cons_zero]
      clear e0 e1 e2 e3 e4 e5 e6 e8
      go_wp2_with (first
        | (refine atLoad 44 (.tmp 10) rfl ?_; go_must (refine wpList_ex rfl (execLdAll rfl rfl (by first | exact K2.out.2.1 | exact XW.out.1) Tryz.underlying44 rfl (size16 _)) ?_))
        | (go_at_call 29; refine DR.mono ?_; rintro e w3 ⟨rfl, hb3⟩; have B3 : Hid (Below W.heap.size W w3) := hb3; clear hb3)
        | (refine atStore 82 (.tmp 12) (.tmp 37) rfl ?_; go_must (refine wpList_exS rfl (execStAll (cells := bA 80 D) rfl rfl rfl (heapNew w3 _) (by rw [bA_size, bA_size]) (size80 _) (bA_one _ _)) ?_; obtain ⟨W4, hW4⟩ : ∃ W4, (w3.alloc (.cells (bA 80 fun _ => 0) 82)).setRow w3.heap.size (bA 80 D) = W4 := ⟨_, rfl⟩; have k2 : W4.heap[w3.heap.size]? = some (.cells (bA 80 D) 82) := (by rw [← hW4]; exact setRow_heap _ _ _ _ _ _ (heapNew w3 _)); have b2 : Below w3.heap.size w3 W4 := (by rw [← hW4]; exact below4 (belNew w3 _) (Nat.le_refl _) _); have b24 : Below W.heap.size W W4 := B3.out.trans (b2.mono B3.out.size); have b14 : Below w1.heap.size w1 W4 := XW.out.2.1.trans (b24.mono XW.out.2.1.size); have K2 : Hid (W4.heap[w3.heap.size]? = some (.cells (bA 80 D) 82) ∧ W4.heap[I]? = some (.cells (bA 16 c) 44) ∧ Below w1.heap.size w1 W4 ∧ Below V.heap.size V W4 ∧ w3.heap.size < W4.heap.size) := ⟨k2, (by rw [b24.block _ XW.out.2.2.1]; exact XW.out.1), b14, X1.out.2.1.trans (b14.mono X1.out.2.1.size), (Array.getElem?_eq_some_iff.1 k2).1⟩; have TG := tagOf_any D c bx L N (.slice (some ⟨g, 32, none⟩) N (cap - 32)) W4 (HV.out.1.below K2.out.2.2.2.1 HV.out.1.sz) DL.out (fun j hj => CB.out j (by have := HV.out; omega)) (by have := HV.out; omega) (by have := HV.out; omega) (by have := HV.out; omega) (SB.out.1.on K2.out.2.2.1); rw [HD.out.2.1] at TG; rw [hW4]; clear k2 b2 b24 b14 hW4))
        | (refine atLoad 82 (.tmp 12) rfl ?_; go_must (refine wpList_ex rfl (execLdAll rfl rfl K2.out.1 Tryz.underlying82 rfl (size80 _)) ?_))
        | (go_at_call 30; refine TG.mono ?_; rintro e w5 ⟨rfl, hb5⟩; have B5 : Hid (_) := hb5; clear hb5)
        | (refine atStore 44 (.tmp 13) (.tmp 47) rfl ?_; go_must (refine wpList_exS rfl (execStAll (cells := bA 16 tg) rfl rfl rfl (heapNew w5 _) (by rw [bA_size, bA_size]) (size16 _) (bA_one _ _)) ?_; obtain ⟨W6, hW6⟩ : ∃ W6, (w5.alloc (.cells (bA 16 fun _ => 0) 44)).setRow w5.heap.size (bA 16 tg) = W6 := ⟨_, rfl⟩; have t6 : W6.heap[w5.heap.size]? = some (.cells (bA 16 tg) 44) := (by rw [← hW6]; exact setRow_heap _ _ _ _ _ _ (heapNew w5 _)); have b6 : Below w5.heap.size w5 W6 := (by rw [← hW6]; exact below4 (belNew w5 _) (Nat.le_refl _) _); have b46 : Below W4.heap.size W4 W6 := B5.out.trans (b6.mono B5.out.size); have b16 : Below w1.heap.size w1 W6 := K2.out.2.2.1.trans (b46.mono K2.out.2.2.1.size); have K6 : Hid (W6.heap[w5.heap.size]? = some (.cells (bA 16 tg) 44) ∧ W6.heap[w3.heap.size]? = some (.cells (bA 80 D) 82) ∧ Below w1.heap.size w1 W6 ∧ Below V.heap.size V W6) := ⟨t6, (by rw [b46.block _ K2.out.2.2.2.2]; exact K2.out.1), b16, X1.out.2.1.trans (b16.mono X1.out.2.1.size)⟩; rw [hW6]; clear t6 b6 b46 b16 hW6)))
      refine wp_region_det 81 [(0, 48), (1, 49), (2, 50), (3, 51), (4, 52)] (eqV (.slice (some ⟨g, 0, none⟩) S cap) (.slice (some ⟨g, 16, none⟩) 16 (cap - 16)) (.slice (some ⟨w5.heap.size, 0, none⟩) 16 16) TB) (fun _ X => Below W6.heap.size W6 X) (by kernel_rfl) (by kernel_rfl) rfl (by kernel_rfl) (by decide) (by decide) ?_ ?_ ?_
      · exact (Below.refl _ _).drew
      · intro j hj l a X hl hf hdep hl2 hcl _ hT
        match j, hj with
        | 0, _ => exact stepV rfl rfl (execMvB rfl (hf 8 (by decide))) ⟨⟨_, rfl, rfl⟩, hT⟩
        | 1, _ => exact stepV rfl rfl (By8.execSlLH rfl (hdep _ rfl 0 rfl _ rfl _ rfl) rfl rfl (sl_lh16 g 0 S cap (by have := HV.out; have := O1.out.2.2.1; omega) X)) ⟨⟨_, rfl, by simp only [eqV, Nat.zero_add]⟩, hT⟩
        | 2, _ => exact stepV rfl rfl (execSlice rfl (hf 13 (by decide)) (sl16 _ X)) ⟨⟨_, rfl, rfl⟩, hT⟩
        | 3, _ =>
          refine stepC rfl rfl (execCall2 Tryz.func31 (by kernel_rfl) (by kernel_rfl) rfl (hdep _ rfl 1 rfl _ rfl _ rfl) (hdep _ rfl 2 rfl _ rfl _ rfl)) (pequal_any _ _ 16 (fun j => c (16 + j)) tg X ((SB.out.2.on K6.out.2.2.1).on hT) (row_slice (by rw [hT.block _ (Array.getElem?_eq_some_iff.1 K6.out.1).1]; exact K6.out.1) (fun j _ => HD.out.2.2.2.2.2.2 j) (by omega))) fun e w' h => ⟨_, h.1, ⟨_, rfl, by rw [HD.out.2.2.2.2.2.1]; rfl⟩, by rw [h.2]; exact hT⟩
        | 4, _ => exact stepV rfl rfl (execNotB rfl (hdep _ rfl 3 rfl _ rfl _ rfl)) ⟨⟨_, rfl, rfl⟩, hT⟩
        | n + 5, h => exact absurd h (by simp)
      · intro l X hall hT
        have XX : Hid (X.heap[w3.heap.size]? = some (.cells (bA 80 D) 82) ∧ X.heap[V.heap.size]? = some (.cells (pC (.slice none 0 0) fun _ => 0) 46) ∧ Below w1.heap.size w1 X ∧ Below V.heap.size V X ∧ V.heap.size < X.heap.size ∧ w3.heap.size < X.heap.size) := by
          have b1X := K6.out.2.2.1.trans (hT.mono K6.out.2.2.1.size)
          exact ⟨by rw [hT.block _ (Array.getElem?_eq_some_iff.1 K6.out.2.1).1]; exact K6.out.2.1, by rw [b1X.block _ X1.out.2.2]; exact X1.out.1, b1X, X1.out.2.1.trans (b1X.mono X1.out.2.1.size), by have := b1X.size; have := X1.out.2.2; omega, by have := (Array.getElem?_eq_some_iff.1 K6.out.2.1).1; have := hT.size; omega⟩
        clear hall hT
        simp only [putP, eqV, Act.put, List.setIfInBounds_toArray, List.set_cons_succ, List.set_cons_zero]
        cases TB with
        | false =>
          have eE : E = 70 := HE.out
          have e1 : peR E key c = fun _ => 0 := by rw [PR.out, if_neg (by omega)]
          have e2 : peN E = 0 := if_neg (by omega)
          have EQ : Hid (peR E key c = (fun _ => 0) ∧ peN E = 0 ∧ E = 70) := ⟨e1, e2, eE⟩
          clear e1 e2 eE
          go_wp2_with (first
            | (refine wpList_ex rfl (execBP0 rfl) ?_)
            | (refine atStore 46 (.tmp 6) (.tmp 53) rfl ?_; go_must (refine wpList_exS rfl (execStAll (cells := pC (.slice none 0 0) fun _ => 0) rfl rfl rfl XX.out.2.1 rfl (sizeP _ _) (pC_one _ rfl)) ?_)))
          refine bodyPost_ret (results_cell_tmp1 Tryz.results18 _ _ V.heap.size 46 _ (0, 0) _ rfl (setRow_heap _ _ _ _ _ _ XX.out.2.1) Tryz.underlying46 rfl (sizeP _ _)) rfl ⟨.slice none 0 0, by rw [EQ.out.1, EQ.out.2.2]; rfl, by rw [EQ.out.2.1]; exact World.ownsRow_nil _ _ _ _, below4 XX.out.2.2.2.1 (Nat.le_refl _) _⟩
        | true =>
          have MK := masked_any D bx N (.slice (some ⟨g, 32, none⟩) N (cap - 32)) X DL.out (SB.out.1.on XX.out.2.2.1) (by have := HV.out; omega)
          rw [HD.out.2.2.1] at MK
          have eE : E = if inOk N pl = false then 71 else 0 := HE.out
          obtain ⟨ok, hok⟩ : ∃ ok, inOk N pl = ok := ⟨_, rfl⟩
          rw [hok] at eE
          obtain ⟨x71, hx71⟩ : ∃ x : Nat, (if ok = true then 0 else 71) = x := ⟨_, rfl⟩
          have IN : Hid (∀ (W : World) (v : Value), SliceN W v N pl → Calls Tryz.prog 32 #[.int .i64 (L : Int), v] W fun e w' => ∃ r, e = .returned (.tuple #[r, .int .i64 (x71 : Int)]) ∧ (ok = true → SliceZ W r (inN pl) fun j => pl (2 + j)) ∧ Below W.heap.size W w') := fun W v hv => by
            have h := inside_any (L : Int) N pl v W (by have := HV.out; omega) (by have := HV.out; omega) hv
            rw [hok, hx71] at h
            exact h
          have pll : Hid (∀ j, j < N → pl j < 256) := by
            intro j hj
            rw [← HD.out.2.2.1]
            unfold bxF maskF
            exact xor_lt (HD.out.2.2.2.2.1 j hj) (enc_by (fun j _ => kw_lt (fun i _ => DL.out i) j) (be_by _) _ (Nat.mod_lt _ (by omega)))
          have i1 : (x71 : Int) ≤ 71 := by rw [← hx71]; split <;> decide
          cases ok with
          | false =>
            have ex : x71 = 71 := by rw [← hx71]; rfl
            have eE : E = 71 := eE
            have e1 : peR E key c = fun _ => 0 := by rw [PR.out, if_neg (by omega)]
            have e2 : peN E = 0 := if_neg (by omega)
            have EQ : Hid (peR E key c = (fun _ => 0) ∧ peN E = 0 ∧ E = 71) := ⟨e1, e2, eE⟩
            have i2 : ((x71 : Int) != 0) = true := by rw [ex]; rfl
            have EX : Hid (x71 = 71) := ex
            clear e1 e2 hx71 eE ex
            go_wp2_with (first
              | (refine atLoad 82 (.tmp 12) rfl ?_; go_must (refine wpList_ex rfl (execLdAll rfl rfl XX.out.1 Tryz.underlying82 rfl (size80 _)) ?_))
              | (go_at_call 33; refine MK.mono ?_; rintro e w7 ⟨r7, rfl, own7, hb7⟩; have O7 : Hid (SliceN w7 r7 N pl ∧ Below X.heap.size X w7) := ⟨own_slice own7 pll.out, hb7⟩; clear own7 hb7)
              | (go_at_call 32; refine (IN.out w7 r7 O7.out.1).mono ?_; rintro e w8 ⟨r8, rfl, _, hb8⟩; have B8 : Hid (w8.heap[V.heap.size]? = some (.cells (pC (.slice none 0 0) fun _ => 0) 46) ∧ Below V.heap.size V w8) := (by have q := O7.out.2.trans (hb8.mono O7.out.2.size); exact ⟨by rw [q.block _ XX.out.2.2.2.2.1]; exact XX.out.2.1, XX.out.2.2.2.1.trans (q.mono XX.out.2.2.2.1.size)⟩); clear hb8)
              | (refine wpList_ex rfl (execBP0 rfl) ?_)
              | (refine atStore 46 (.tmp 6) (.tmp 64) rfl ?_; go_must (refine wpList_exS rfl (execStAll (cells := pC (.slice none 0 0) fun _ => 0) rfl rfl rfl B8.out.1 rfl (sizeP _ _) (pC_one _ rfl)) ?_)))
            refine bodyPost_ret (results_cell_tmp1 Tryz.results18 _ _ V.heap.size 46 _ (0, 0) _ rfl (setRow_heap _ _ _ _ _ _ B8.out.1) Tryz.underlying46 rfl (sizeP _ _)) rfl ⟨.slice none 0 0, by rw [EQ.out.1, EQ.out.2.2, ← EX.out]; rfl, by rw [EQ.out.2.1]; exact World.ownsRow_nil _ _ _ _, below4 B8.out.2 (Nat.le_refl _) _⟩
          | true =>
            have ex : x71 = 0 := by rw [← hx71]; rfl
            have eE : E = 0 := eE
            have e1 : peR E key c = hfF (rpK D) c 32 := by rw [PR.out, if_pos eE]
            have e2 : peN E = 320 := if_pos eE
            have i2 : ((x71 : Int) != 0) = false := by rw [ex]; rfl
            obtain ⟨rp, hrp⟩ : ∃ rp, hfF (rpK D) c 32 = rp := ⟨_, rfl⟩
            rw [hrp] at e1
            have EQ : Hid (peR E key c = rp ∧ peN E = 320 ∧ E = 0) := ⟨e1, e2, eE⟩
            have hin : inN pl ≤ N - 2 := by
              unfold inOk at hok
              rw [Bool.and_eq_true] at hok
              exact of_decide_eq_true hok.1
            have NX : Hid (∀ (W : World) (v : Value), SliceZ W v (inN pl) (fun j => pl (2 + j)) → Calls Tryz.prog 34 #[.int .i64 (L : Int), v] W fun e w' => ∃ r, e = .returned (.tuple #[r, .int .i64 0]) ∧ w'.ownsRow W.heap.size 5 1 r 320 (bytesL 320 (nxF L (inN pl) fun j => pl (2 + j))) ∧ Below W.heap.size W w') := fun W v hv => nextCell_any (L : Int) (inN pl) _ v W (by have := HV.out; omega) hv (by have := HV.out; omega) (fun q => by have := HV.out; omega)
            have RP : Hid (∀ (W : World) (v : Value), Glob W → SliceN W v S c → Calls Tryz.prog 35 #[.agg (bA 80 D), v] W fun e w' => e = .returned (.agg (bA 16 rp)) ∧ Below W.heap.size W w') := fun W v hg hv => by
              have h := replayTag_any D c S v W hg DL.out (by have := HV.out; omega) hv
              rw [hrp] at h
              exact h
            clear e1 e2 eE hx71 hrp hin
            go_wp2_with (first
              | (refine atLoad 82 (.tmp 12) rfl ?_; go_must (refine wpList_ex rfl (execLdAll rfl rfl (by first | exact B9.out.1 | exact XX.out.1) Tryz.underlying82 rfl (size80 _)) ?_))
              | (go_at_call 33; refine MK.mono ?_; rintro e w7 ⟨r7, rfl, own7, hb7⟩; have O7 : Hid (SliceN w7 r7 N pl ∧ Below X.heap.size X w7) := ⟨own_slice own7 pll.out, hb7⟩; clear own7 hb7)
              | (go_at_call 32; refine (IN.out w7 r7 O7.out.1).mono ?_; rintro e w8 ⟨r8, rfl, sz8, hb8⟩; have B8 : Hid (Below X.heap.size X w8 ∧ SliceZ w8 r8 (inN pl) (fun j => pl (2 + j))) := ⟨O7.out.2.trans (hb8.mono O7.out.2.size), (sz8 (by first | rfl | trivial)).on hb8⟩; clear hb8 sz8)
              | (go_at_call 34; refine (NX.out w8 r8 B8.out.2).mono ?_; rintro e w9 ⟨r9, rfl, own9, hb9⟩; obtain ⟨a9, c9, rfl⟩ := own_shapeJ own9; have B9 : Hid (w9.heap[w3.heap.size]? = some (.cells (bA 80 D) 82) ∧ Below X.heap.size X w9 ∧ Below V.heap.size V w9 ∧ SliceN w9 (.slice (some ⟨g, 0, none⟩) S cap) S c ∧ w9.ownsRow V.heap.size 5 1 (.slice a9 320 c9) 320 (bytesL 320 (nxF L (inN pl) fun j => pl (2 + j)))) := (by have q := B8.out.1.trans (hb9.mono B8.out.1.size); have q1 := XX.out.2.2.1.trans (q.mono XX.out.2.2.1.size); have qV := XX.out.2.2.2.1.trans (q.mono XX.out.2.2.2.1.size); exact ⟨by rw [q.block _ XX.out.2.2.2.2.2]; exact XX.out.1, q, qV, O1.out.1.on q1, own_base own9 (by have := B8.out.1.size; have := XX.out.2.2.2.2.1; omega)⟩); clear own9 hb9)
              | (go_at_call 35; refine (RP.out w9 _ (HV.out.1.below B9.out.2.2.1 HV.out.1.sz) B9.out.2.2.2.1).mono ?_; rintro e w10 ⟨rfl, hb10⟩; have B10 : Hid (w10.heap[V.heap.size]? = some (.cells (pC (.slice none 0 0) fun _ => 0) 46) ∧ Below V.heap.size V w10 ∧ w10.ownsRow V.heap.size 5 1 (.slice a9 320 c9) 320 (bytesL 320 (nxF L (inN pl) fun j => pl (2 + j)))) := (by have q := B9.out.2.1.trans (hb10.mono B9.out.2.1.size); exact ⟨by rw [q.block _ XX.out.2.2.2.2.1]; exact XX.out.2.1, B9.out.2.2.1.trans (hb10.mono B9.out.2.2.1.size), ownsRow_below B9.out.2.2.2.2 hb10⟩); clear hb10)
              | (refine wpList_ex rfl (execBP rfl rfl rfl) ?_)
              | (refine atStore 46 (.tmp 6) (.tmp 80) rfl ?_; go_must (refine wpList_exS rfl (execStAll (cells := pC (.slice a9 320 c9) rp) rfl rfl rfl B10.out.1 (by rw [pC_size, pC_size]) (sizeP _ _) (pC_one _ rfl)) ?_)))
            refine bodyPost_ret (results_cell_tmp1 Tryz.results18 _ _ V.heap.size 46 _ (0, 0) _ rfl (setRow_heap _ _ _ _ _ _ B10.out.1) Tryz.underlying46 rfl (sizeP _ _)) rfl ⟨.slice a9 320 c9, by rw [EQ.out.1, EQ.out.2.2]; rfl, by rw [EQ.out.2.1]; exact ownsRow_row B10.out.2.2 B10.out.1 (by decide) _, below4 B10.out.2.1 (Nat.le_refl _) _⟩
  · rw [if_pos (by simp; exact h0)] at E0
    have hcut : cutN c len (S : Int) = 0 := by unfold cutN; rw [hCE, if_neg h0]
    rw [hCE, hcut] at C
    have e1 : peR E key c = fun _ => 0 := by unfold peR; rw [if_neg (by omega)]
    have e2 : peN E = 0 := if_neg (by omega)
    rw [e1, e2, E0]
    have i2 : ((CE : Int) != 0) = true := by simp; omega
    clear e1 e2 hcut hCE hN hcb
    go_enter Tryz.func18, Tryz.ntmps18
    go_wp2_with (first
      | (go_at_call 17; refine (PS _).mono ?_; rintro e w2 ⟨rfl, hw2⟩; rw [hw2]; clear hw2)
      | (go_at_call 28; refine C.mono ?_; rintro e w1 ⟨r, rfl, own, hb1⟩; have X1 : Hid (w1.heap[V.heap.size]? = some (.cells (pC (.slice none 0 0) fun _ => 0) 46) ∧ Below V.heap.size V w1) := ⟨(by rw [hb1.block _ (by have := H.out.2.2; omega)]; exact H.out.1), H.out.2.1.trans (hb1.mono H.out.2.1.size)⟩; clear own hb1)
      | (refine wpList_ex rfl (execBP0 rfl) ?_)
      | (refine atStore 46 (.tmp 6) (.tmp 25) rfl ?_; go_must (refine wpList_exS rfl (execStAll (cells := pC (.slice none 0 0) fun _ => 0) rfl rfl rfl X1.out.1 rfl (sizeP _ _) (pC_one _ rfl)) ?_)))
    refine bodyPost_ret (results_cell_tmp1 Tryz.results18 _ _ V.heap.size 46 _ (0, 0) _ rfl (setRow_heap _ _ _ _ _ _ X1.out.1) Tryz.underlying46 rfl (sizeP _ _)) rfl ⟨_, rfl, World.ownsRow_nil _ _ _ _, below4 X1.out.2 (Nat.le_refl _) _⟩
set_option maxRecDepth 20000 in
set_option maxHeartbeats 1000000 in
theorem peel_any (key c : Nat → Nat) (lk len : Nat) (left : Int) (vk vc : Value) (V : World) (hG : Glob V) (hk : SliceN V vk lk key) (hc : SliceZ V vc len c) (hb : len ≤ 140737488351232) :
    Calls Tryz.prog 9 #[vk, .int .i64 left, vc] V fun e w' => ∃ cv, e = .returned (.tuple #[.agg (pC cv (peR (peE lk left len key c) key c)), .int .i64 (peE lk left len key c : Nat)]) ∧ w'.ownsRow V.heap.size 5 1 cv (peN (peE lk left len key c)) (bytesL (peN (peE lk left len key c)) (peC left key c)) ∧ Below V.heap.size V w' := by
  obtain ⟨V1, hV1⟩ : ∃ V1, V.alloc (.cells (pC (.slice none 0 0) fun _ => 0) 46) = V1 := ⟨_, rfl⟩
  have r1 := heapNew V (.cells (pC (.slice none 0 0) fun _ => 0) 46)
  have b1 := belNew V (.cells (pC (.slice none 0 0) fun _ => 0) 46)
  have s1 : V1.heap.size = V.heap.size + 1 := by rw [← hV1]; simp
  rw [hV1] at r1 b1
  obtain ⟨ka, kcap, rfl, _⟩ := id hk.shape
  obtain ⟨S, hS⟩ : ∃ S, sz left = S := ⟨_, rfl⟩
  have PS := psize_any left
  rw [hS] at PS
  have zp := zeroP
  have H : Hid (V1.heap[V.heap.size]? = some (.cells (pC (.slice none 0 0) fun _ => 0) 46) ∧ Below V.heap.size V V1 ∧ V1.heap.size = V.heap.size + 1) := ⟨r1, b1, s1⟩
  by_cases hbad : lk ≠ 32 ∨ S = 0
  · have E : peE lk left len key c = 2 := by unfold peE; rw [hS, if_pos hbad]
    have e1 : peR 2 key c = fun _ => 0 := rfl
    have e2 : peN 2 = 0 := rfl
    rw [E, e1, e2]
    clear E e1 e2 hG hk hc hb r1 b1 s1 hS
    by_cases hl : lk = 32
    · have i1 : ((lk : Int) != 32) = false := by simp; omega
      obtain rfl : S = 0 := by rcases hbad with h | h; exact absurd hl h; exact h
      clear hbad
      go_enter Tryz.func9, Tryz.ntmps9
      go_wp2_with (first
        | (go_at_call 17; refine (PS _).mono ?_; rintro e w2 ⟨rfl, hw2⟩; rw [hw2]; clear hw2)
        | (refine wpList_ex rfl (execBP0 rfl) ?_)
        | (refine atStore 46 (.tmp 6) (.tmp 16) rfl ?_; go_must (refine wpList_exS rfl (execStAll (cells := pC (.slice none 0 0) fun _ => 0) rfl rfl rfl H.out.1 rfl (sizeP _ _) (pC_one _ rfl)) ?_)))
      refine bodyPost_ret (results_cell_tmp1 Tryz.results9 _ _ V.heap.size 46 _ (0, 0) _ rfl (setRow_heap _ _ _ _ _ _ H.out.1) Tryz.underlying46 rfl (sizeP _ _)) rfl ⟨_, rfl, World.ownsRow_nil _ _ _ _, below4 H.out.2.1 (Nat.le_refl _) _⟩
    · have i1 : ((lk : Int) != 32) = true := by simp; omega
      clear hbad
      go_enter Tryz.func9, Tryz.ntmps9
      go_wp2_with (first
        | (refine wpList_ex rfl (execBP0 rfl) ?_)
        | (refine atStore 46 (.tmp 6) (.tmp 16) rfl ?_; go_must (refine wpList_exS rfl (execStAll (cells := pC (.slice none 0 0) fun _ => 0) rfl rfl rfl H.out.1 rfl (sizeP _ _) (pC_one _ rfl)) ?_)))
      refine bodyPost_ret (results_cell_tmp1 Tryz.results9 _ _ V.heap.size 46 _ (0, 0) _ rfl (setRow_heap _ _ _ _ _ _ H.out.1) Tryz.underlying46 rfl (sizeP _ _)) rfl ⟨_, rfl, World.ownsRow_nil _ _ _ _, below4 H.out.2.1 (Nat.le_refl _) _⟩
  · obtain rfl : lk = 32 := by
      by_cases h : lk = 32
      · exact h
      · exact absurd (Or.inl h) hbad
    have h0 : S ≠ 0 := fun h => hbad (Or.inr h)
    obtain ⟨g1, g2, g3, g4⟩ := sz_pos (left := left) (by rw [hS]; exact h0)
    obtain ⟨L, rfl⟩ : ∃ L : Nat, left = L := ⟨left.toNat, by omega⟩
    rw [hS] at g3 g4
    rw [show (L : Int).toNat = L from by simp] at g3
    have C := peeled_any key c len L S (S - 32) (.slice ka 32 kcap) vc V1 (hG.below b1 hG.sz) (hk.on b1) (hc.on b1) hb hS (by omega)
    obtain ⟨E, hE⟩ : ∃ E, peE 32 (L : Int) len key c = E := ⟨_, rfl⟩
    rw [hE] at C ⊢
    obtain ⟨rp, hrp⟩ : ∃ rp, peR E key c = rp := ⟨_, rfl⟩
    rw [hrp] at C ⊢
    have i1 : ((S : Int) == 0) = false := by simp; omega
    clear hbad hG hk hc hb r1 b1 s1 hS h0 g1 g2 g3 g4 hE hrp
    go_enter Tryz.func9, Tryz.ntmps9
    go_wp2_with (first
      | (go_at_call 17; refine (PS _).mono ?_; rintro e w2 ⟨rfl, hw2⟩; rw [hw2]; clear hw2)
      | (go_at_call 18; refine C.mono ?_; rintro e w1 ⟨cv, rfl, own, hb1⟩; obtain ⟨a9, c9, rfl⟩ := own_shapeJ own; have X1 : Hid (w1.heap[V.heap.size]? = some (.cells (pC (.slice none 0 0) fun _ => 0) 46) ∧ Below V.heap.size V w1 ∧ w1.ownsRow V.heap.size 5 1 (.slice a9 (peN E) c9) (peN E) (bytesL (peN E) (peC L key c))) := ⟨(by rw [hb1.block _ (by have := H.out.2.2; omega)]; exact H.out.1), H.out.2.1.trans (hb1.mono H.out.2.1.size), own_base own H.out.2.1.size⟩; clear own hb1)
      | (refine atStore 46 (.tmp 6) (.tmp 21) rfl ?_; go_must (refine wpList_exS rfl (execStAll (cells := pC (.slice a9 (peN E) c9) rp) rfl rfl rfl X1.out.1 (by rw [pC_size, pC_size]) (sizeP _ _) (pC_one _ rfl)) ?_)))
    refine bodyPost_ret (results_cell_tmp1 Tryz.results9 _ _ V.heap.size 46 _ (0, 0) _ rfl (setRow_heap _ _ _ _ _ _ X1.out.1) Tryz.underlying46 rfl (sizeP _ _)) rfl ⟨_, rfl, ownsRow_row X1.out.2.2 X1.out.1 (by decide) _, below4 X1.out.2.1 (Nat.le_refl _) _⟩
end Go.Proofs.YtejhbfbnljioeaaGreatDoor.Oni

namespace Go.Proofs.YtejhbfbnljioeaaGreatDoor.Oni
open Go.RowKit Gf8 Aes By8 Cel
/- What is wrapped is peeled; alive. -/

section
variable {key nonce inner : Nat → Nat} {L n : Nat}
theorem szL (hL : 1 ≤ L ∧ L ≤ 8) : sz (L : Int) = 48 + 34 * L := by unfold sz; rw [if_pos (by omega)]; simp
end
end Go.Proofs.YtejhbfbnljioeaaGreatDoor.Oni

namespace Go.Proofs.YtejhbfbnljioeaaGreatDoor.Oni
open Go.RowKit Gf8 Aes By8 Cel
/- alive. -/

theorem peP_lt {key c : Nat → Nat} {j : Nat} (h : c (32 + j) < 256) : peP key c j < 256 := by
  unfold peP bxF maskF
  exact xor_lt h (enc_by (fun j _ => kw_lt (fun i _ => dk_lt _ _ i) j) (be_by _) _ (Nat.mod_lt _ (by omega)))
theorem nxF_lt {left : Int} {n : Nat} {p : Nat → Nat} (hn : left ≤ 1 → n < 256) (hp : ∀ j, j < n → p j < 256) : ∀ j, nxF left n p j < 256 := by
  intro j
  unfold nxF
  split
  · exact cellF_lt (fun j h => by omega) hp j
  · rename_i q
    have := hn (by omega)
    exact cellF_lt (fun j h => by unfold headP; split <;> omega) hp j
theorem pC_at {W : World} {g : Nat} {cv : Value} {r : Nat → Nat} {t : TypeId} (h : W.heap[g]? = some (.cells (pC cv r) t)) : W.cell? ⟨g, 0, none⟩ = some cv := by
  rw [cell_of_row _ _ _ _ _ _ h]
  rfl
end Go.Proofs.YtejhbfbnljioeaaGreatDoor.Oni
