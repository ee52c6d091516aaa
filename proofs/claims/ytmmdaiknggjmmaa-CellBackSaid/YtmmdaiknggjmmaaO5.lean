import Derived.Deep.RegionWith
import Derived.Deep.DeepCutAuto
import Derived.Deep.CutBlock
import Derived.Test.YtmmdaiknggjmmaaO4
namespace Go.Proofs.Ytmmdaiknggjmmaa.Cel
open Go.RowKit Gf8 Aes By8
/- CellBack. -/

theorem open_short (f : Nat → Nat) : openY f 0 = false ∧ openE f 0 = 50 ∧ openN f 0 = 0 := by
  have h : openY f 0 = false := by unfold openY; simp
  exact ⟨h, by unfold openE; rw [if_pos (by omega)], open_no h⟩
theorem open_plain {len : Nat} (p : Nat → Nat) (h : len ≤ 48) : openY (cellF 2 (headP len) len p) 320 = true ∧ openE (cellF 2 (headP len) len p) 320 = 0 ∧ openN (cellF 2 (headP len) len p) 320 = len := by
  have a0 : cellF 2 (headP len) len p 0 = 1 := rfl
  have a1 : cellF 2 (headP len) len p 1 = len := rfl
  have hy : openY (cellF 2 (headP len) len p) 320 = true := by
    unfold openY
    simp only [Bool.and_eq_true, decide_eq_true_eq]
    refine ⟨⟨⟨trivial, a0⟩, by rw [a1]; exact h⟩, (zeroFrom_iff _ _).2 fun j h1 h2 => ?_⟩
    rw [a1] at h1
    unfold cellF
    rw [if_neg (by omega), if_neg (by omega)]
  obtain ⟨_, _, _, _, hE, hN⟩ := open_yes hy
  exact ⟨hy, hE, by rw [hN, a1]⟩
theorem open_noise (len : Nat) (p : Nat → Nat) : openY (cellF 1 headO len p) 320 = false ∧ openE (cellF 1 headO len p) 320 = 0 ∧ openN (cellF 1 headO len p) 320 = 0 := by
  have a0 : cellF 1 headO len p 0 = 0 := rfl
  have hy : openY (cellF 1 headO len p) 320 = false := by unfold openY; simp [a0]
  exact ⟨hy, by unfold openE; rw [if_neg (by simp), a0, if_neg (by omega), if_pos rfl], open_no hy⟩
theorem plain_in {len : Nat} (p : Nat → Nat) {j : Nat} (h : j < len) : cellF 2 (headP len) len p (2 + j) = p j := by
  unfold cellF
  rw [if_neg (by omega), if_pos (by omega), show 2 + j - 2 = j by omega]
theorem zero_pad {len : Nat} (p : Nat → Nat) (hl : len ≤ 320) (m : Nat) : zeroFrom (cellF 0 headO len p) m = zeroF len p m := by
  rw [Bool.eq_iff_iff, zeroFrom_iff, zeroF_iff]
  constructor
  · intro h j h1 h2
    have := h j h1 (by omega)
    rwa [cellF_in len p h2] at this
  · intro h j h1 h2
    by_cases h3 : j < len
    · rw [cellF_in len p h3]; exact h j h1 h3
    · exact cellF_out len p h3
theorem cut_pad {len : Nat} (p : Nat → Nat) (hl : len ≤ 320) {m : Nat} (hm : m ≤ 320) : cutE (cellF 0 headO len p) 320 (m : Int) = (if zeroF len p m then 0 else 51) ∧ cutN (cellF 0 headO len p) 320 (m : Int) = (if zeroF len p m then m else 0) := by
  have e : cutE (cellF 0 headO len p) 320 (m : Int) = (if zeroF len p m then 0 else 51) := by
    unfold cutE
    rw [if_neg (by simp), if_neg (by omega)]
    show (if zeroFrom (cellF 0 headO len p) m = true then 0 else 51) = _
    rw [zero_pad p hl]
  refine ⟨e, ?_⟩
  unfold cutN
  rw [e]
  cases zeroF len p m <;> rfl
theorem zeroF_end (len : Nat) (p : Nat → Nat) : zeroF len p len = true := (zeroF_iff len p len).2 fun j h1 h2 => by omega
theorem zeroF_more {k m : Nat} (p : Nat → Nat) (h : m ≤ k) : zeroF (k + 1) p m = (zeroF k p m && p k == 0) := by
  unfold zeroF
  rw [List.range_succ, List.all_append]
  simp only [List.all_cons, List.all_nil, Bool.and_true]
  have : decide (k < m) = false := by simp; omega
  rw [this, Bool.false_or]
section
variable {o : Oper} {a : Act} {w : World}
theorem execEqE {x : Operand} {p : Nat} {q : Int} (ho : o.op = .binOp .eql 26 x (.const (.int .i64 q)) 26) (hx : a.eval x = .int .i64 p) : (execOp a.eval o).run Try.prog w = .ok (.value (.bool ((p : Int) == q))) w := by
  unfold execOp
  simp only [ho, hx]
  simp [go_sem]
theorem execEqI {x : Operand} {p : Nat} {q : Int} (ho : o.op = .binOp .eql 3 x (.const (.int .i64 q)) 3) (hx : a.eval x = .int .i64 p) : (execOp a.eval o).run Try.prog w = .ok (.value (.bool ((p : Int) == q))) w := by
  unfold execOp
  simp only [ho, hx]
  simp [go_sem]
end
theorem execAsgC {P : Program} {o : Oper} {a : Act} {w : World} {x : Operand} {v : Value} (ho : o.op = .assign x) (hx : a.eval x = v) : (execOp a.eval o).run P w = .ok (.value v) w := by
  unfold execOp
  simp only [ho, hx, Sem.run_pure]
theorem atConv {P : Program} {ops : Array Oper} {rest : List Oper} {o : Oper} {a : Act} {w : World} {Q : Exit → Act → World → Prop} {x : Operand} (_ : o.op = .convert 22 9 x) (h : wpList P ops Q (o :: rest) a w) : wpList P ops Q (o :: rest) a w := h
theorem atNeqS {P : Program} {ops : Array Oper} {rest : List Oper} {o : Oper} {a : Act} {w : World} {Q : Exit → Act → World → Prop} {x y : Operand} (_ : o.op = .binOp .neq 9 x y 9) (h : wpList P ops Q (o :: rest) a w) : wpList P ops Q (o :: rest) a w := h
/-- What each operation of CellBack's last region yields, as bytes were left out or not. -/
def bkV (left : Bool) (f : Nat) (b : Value) (v : Value) (n : Nat) (sl : Value) (s : ByteArray) (j : Nat) : Value :=
  match left, j with
  | true, 0 => .bool true | true, 1 => .bool true | true, 2 => .int .i64 f | true, 3 => .bool true | true, 4 => .bool true | true, 5 => .bool true | true, 6 => b | true, 7 => .int .i64 (0 : Nat) | true, 8 => .bool true | true, 9 => .bool true | true, 10 => .bool true
  | true, 26 => .bool true | true, 27 => .bool true | true, _ => undef
  | false, 0 => .bool false | false, 1 => .bool false | false, 2 => undef | false, 3 => undef | false, 4 => .bool false | false, 5 => .bool false | false, 6 => undef | false, 7 => undef | false, 8 => undef | false, 9 => .bool false | false, 10 => .bool false
  | false, 11 => .bool false | false, 12 => .bool true | false, 13 => .bool true | false, 14 => .int .i64 f | false, 15 => .bool true | false, 16 => .bool true | false, 17 => .bool true | false, 18 => b | false, 19 => .string s | false, 20 => v | false, 21 => .int .i64 n | false, 22 => sl | false, 23 => .string s | false, _ => .bool true

set_option maxRecDepth 20000 in
set_option maxHeartbeats 600000 in
theorem back_any (I : Impl) (p : Nat → Nat) (len : Nat) (n : Int) (v : Value) (V : World) (hv : SliceZ V v len p) (hl : len ≤ 140737488351232) (h0 : -9223372036854775808 ≤ n) (h1 : n < 9223372036854775808) :
    Calls Try.prog 5 #[v, .int .i64 n] V fun e w' => e = .returned (.bool true) ∧ Below V.heap.size V w' := by
  have HI : Hid Impl := I
  have HL : Hid (len ≤ 140737488351232) := hl
  have lb : (len : Int) ≤ 140737488351232 := by omega
  have PB : Hid (∀ j, j < len → p j < 256) := hv.sl.bytes
  have P0 : Hid (∀ j, j < okN 320 len → cellF 0 headO len p j < 256) := fun j _ => cellF_lt headO_lt hv.sl.bytes j
  have P1 : Hid (∀ j, j < okN 48 len → cellF 2 (headP len) len p j < 256) := plain_lt hv.sl.bytes
  have P2 : Hid (∀ j, j < okN 319 len → cellF 1 headO len p j < 256) := fun j _ => cellF_lt headO_lt hv.sl.bytes j
  have sv : Hid (SliceZ V v len p) := hv
  have bel : Hid (Below V.heap.size V V) := Below.refl _ _
  have SV := hv.shape
  obtain ⟨av, cv, rfl⟩ := SV
  clear I hl hv
  obtain ⟨f0, g0⟩ : ∃ f, cellF 0 headO len p = f := ⟨_, rfl⟩
  obtain ⟨f1, g1⟩ : ∃ f, cellF 2 (headP len) len p = f := ⟨_, rfl⟩
  obtain ⟨f2, g2⟩ : ∃ f, cellF 1 headO len p = f := ⟨_, rfl⟩
  have G0 : Hid (cellF 0 headO len p = f0) := g0
  have G1 : Hid (cellF 2 (headP len) len p = f1) := g1
  have G2 : Hid (cellF 1 headO len p = f2) := g2
  obtain ⟨e1, n1, y1, E1, N1, e2, n2, y2, E2, N2, X1, X2, D⟩ : ∃ (e1 n1 : Nat) (y1 : Bool) (E1 N1 e2 n2 : Nat) (y2 : Bool) (E2 N2 : Nat), Hid (okE 48 len = e1 ∧ okN 48 len = n1 ∧ openY f1 n1 = y1 ∧ openE f1 n1 = E1 ∧ openN f1 n1 = N1) ∧ Hid (okE 319 len = e2 ∧ okN 319 len = n2 ∧ openY f2 n2 = y2 ∧ openE f2 n2 = E2 ∧ openN f2 n2 = N2) ∧
      (((len : Int) ≤ 48 ∧ ¬ (len : Int) > 48 ∧ (len : Int) ≤ 319 ∧ 0 = e1 ∧ 320 = n1 ∧ true = y1 ∧ 0 = E1 ∧ len = N1 ∧ 0 = e2 ∧ 320 = n2 ∧ false = y2 ∧ 0 = E2 ∧ 0 = N2) ∨ (¬ (len : Int) ≤ 48 ∧ (len : Int) > 48 ∧ (len : Int) ≤ 319 ∧ 1 = e1 ∧ 0 = n1 ∧ false = y1 ∧ 50 = E1 ∧ 0 = N1 ∧ 0 = e2 ∧ 320 = n2 ∧ false = y2 ∧ 0 = E2 ∧ 0 = N2) ∨ (¬ (len : Int) ≤ 48 ∧ (len : Int) > 48 ∧ ¬ (len : Int) ≤ 319 ∧ 1 = e1 ∧ 0 = n1 ∧ false = y1 ∧ 50 = E1 ∧ 0 = N1 ∧ 1 = e2 ∧ 0 = n2 ∧ false = y2 ∧ 50 = E2 ∧ 0 = N2)) := by
    refine ⟨_, _, _, _, _, _, _, _, _, _, ⟨rfl, rfl, rfl, rfl, rfl⟩, ⟨rfl, rfl, rfl, rfl, rfl⟩, ?_⟩
    by_cases h48 : len ≤ 48
    · left
      have a := open_plain p h48
      have b := open_noise len p
      rw [g1] at a
      rw [g2] at b
      have c1 : okN 48 len = 320 := if_pos h48
      have c2 : okN 319 len = 320 := if_pos (by omega)
      rw [c1, c2]
      exact ⟨by omega, by omega, by omega, (if_pos h48).symm, rfl, a.1.symm, a.2.1.symm, a.2.2.symm, (if_pos (by omega)).symm, rfl, b.1.symm, b.2.1.symm, b.2.2.symm⟩
    · have c1 : okN 48 len = 0 := if_neg h48
      have a := open_short f1
      by_cases h319 : len ≤ 319
      · right; left
        have b := open_noise len p
        rw [g2] at b
        have c2 : okN 319 len = 320 := if_pos h319
        rw [c1, c2]
        exact ⟨by omega, by omega, by omega, (if_neg h48).symm, rfl, a.1.symm, a.2.1.symm, a.2.2.symm, (if_pos h319).symm, rfl, b.1.symm, b.2.1.symm, b.2.2.symm⟩
      · right; right
        have b := open_short f2
        have c2 : okN 319 len = 0 := if_neg h319
        rw [c1, c2]
        exact ⟨by omega, by omega, by omega, (if_neg h48).symm, rfl, a.1.symm, a.2.1.symm, a.2.2.symm, (if_neg h319).symm, rfl, b.1.symm, b.2.1.symm, b.2.2.symm⟩
  rw [g1] at P1
  rw [g2] at P2
  rw [g0] at P0
  have PN1 : Hid (∀ j, j < n1 → f1 j < 256) := by
    show ∀ j, j < n1 → f1 j < 256
    rw [← X1.out.2.1]; exact P1.out
  have PN2 : Hid (∀ j, j < n2 → f2 j < 256) := by
    show ∀ j, j < n2 → f2 j < 256
    rw [← X2.out.2.1]; exact P2.out
  clear g0 g1 g2
  by_cases hbig : 320 < len
  · have N3 : Hid (okN 320 len = 0) := if_neg (by omega)
    have E3 : Hid (okE 320 len = 1) := if_neg (by omega)
    have PN0 : Hid (∀ j, j < 0 → f0 j < 256) := fun j hj => by omega
    rcases D with ⟨h, _⟩ | ⟨_, _, h, _⟩ | ⟨a1, a2, a3, rfl, rfl, rfl, rfl, rfl, rfl, rfl, rfl, rfl, rfl⟩
    · omega
    · omega
    · have a4 : (len : Int) > 320 := by omega
      clear hbig
      go_enter Try.func5, Try.ntmps5
      go_wp2_with (first
        | (go_at_call 8; refine (awake_any HI.out _).mono ?_; rintro e w0 ⟨rfl, hb0⟩; have sv : Hid (SliceZ w0 _ len p) := sv.out.on hb0; have bel : Hid (Below V.heap.size V w0) := bel.out.trans (hb0.mono bel.out.size); clear hb0)
        | (go_at_call 13; refine (HI.out.plain p len _ _ sv.out HL.out).mono ?_; rintro e w1 ⟨c, rfl, oc, hb1⟩; have sv : Hid (SliceZ w1 _ len p) := sv.out.on hb1; have bel : Hid (Below V.heap.size V w1) := bel.out.trans (hb1.mono bel.out.size); rw [X1.out.2.1, G1.out] at oc; rw [X1.out.1]; have sc := own_sliceZ oc PN1.out; obtain ⟨ac, cc, rfl⟩ := sc.shape; have SC1 : Hid (_) := sc; clear sc oc hb1)
        | (go_at_call_of 18 ac; refine (HI.out.opens f1 _ _ _ SC1.out (by omega)).mono ?_; rintro e w2 ⟨b, rfl, ob, hb2⟩; have sv : Hid (SliceZ w2 _ len p) := sv.out.on hb2; have bel : Hid (Below V.heap.size V w2) := bel.out.trans (hb2.mono bel.out.size); have sb := own_slice ob (fun j hj => SC1.out.sl.bytes _ (openN_lt _ _ hj).2); rw [X1.out.2.2.2.2] at sb; rw [X1.out.2.2.1, X1.out.2.2.2.1]; obtain ⟨ab, cb, eb, _⟩ := sb.shape; subst eb; have SB1 : Hid (_) := sb; clear sb ob hb2)
        | (go_at_call 14; refine (HI.out.noise p len _ _ sv.out HL.out).mono ?_; rintro e w3 ⟨c2, rfl, oc2, hb3⟩; have sv : Hid (SliceZ w3 _ len p) := sv.out.on hb3; have bel : Hid (Below V.heap.size V w3) := bel.out.trans (hb3.mono bel.out.size); rw [X2.out.2.1, G2.out] at oc2; rw [X2.out.1]; have sc2 := own_sliceZ oc2 PN2.out; obtain ⟨ac2, cc2, rfl⟩ := sc2.shape; have SC2 : Hid (_) := sc2; clear sc2 oc2 hb3)
        | (go_at_call_of 18 ac2; refine (HI.out.opens f2 _ _ _ SC2.out (by omega)).mono ?_; rintro e w4 ⟨b2, rfl, ob2, hb4⟩; have sv : Hid (SliceZ w4 _ len p) := sv.out.on hb4; have bel : Hid (Below V.heap.size V w4) := bel.out.trans (hb4.mono bel.out.size); have sb2 := own_slice ob2 (fun j hj => SC2.out.sl.bytes _ (openN_lt _ _ hj).2); rw [X2.out.2.2.2.2] at sb2; rw [X2.out.2.2.1, X2.out.2.2.2.1]; obtain ⟨ab2, cb2, eb2, _⟩ := sb2.shape; subst eb2; clear sb2 ob2 hb4)
        | (go_at_call 12; refine (HI.out.pad p len _ _ sv.out HL.out).mono ?_; rintro e w5 ⟨c3, rfl, oc3, hb5⟩; have sv : Hid (SliceZ w5 _ len p) := sv.out.on hb5; have bel : Hid (Below V.heap.size V w5) := bel.out.trans (hb5.mono bel.out.size); rw [G0.out, N3.out] at oc3; rw [E3.out]; have sc3 := own_sliceZ oc3 PN0.out; obtain ⟨ac3, cc3, rfl⟩ := sc3.shape; have SC3 : Hid (_) := sc3; clear sc3 oc3 hb5))
      go_ret
      exact ⟨rfl, bel.out⟩
  · have hle : len ≤ 320 := by omega
    have N3 : Hid (okN 320 len = 320) := if_pos hle
    have E3 : Hid (okE 320 len = 0) := if_pos hle
    have PN0 : Hid (∀ j, j < 320 → f0 j < 256) := by
      show ∀ j, j < 320 → f0 j < 256
      rw [← G0.out]; exact fun j _ => cellF_lt headO_lt PB.out j
    have C0 : Hid (cutE f0 320 (len : Int) = 0 ∧ cutN f0 320 (len : Int) = len ∧ (∀ j, j < len → f0 j = p j) ∧ ∀ j, j < len → f0 j < 256) := by
      have h := cut_pad p hle (m := len) hle
      rw [G0.out, zeroF_end] at h
      exact ⟨h.1, h.2, fun j hj => by rw [← G0.out]; exact cellF_in len p hj, fun j hj => PN0.out j (by omega)⟩
    have a4 : ¬ (len : Int) > 320 := by omega
    have HLE : Hid (len ≤ 320) := hle
    clear hbig hle
    rcases D with ⟨a1, a2, a3, rfl, rfl, rfl, rfl, rfl, rfl, rfl, rfl, rfl, rfl⟩ | ⟨a1, a2, a3, rfl, rfl, rfl, rfl, rfl, rfl, rfl, rfl, rfl, rfl⟩ | ⟨a1, a2, a3, rfl, rfl, rfl, rfl, rfl, rfl, rfl, rfl, rfl, rfl⟩
    all_goals
      go_enter Try.func5, Try.ntmps5
      go_upto_region 17 with (first
        | (go_at_call 8; refine (awake_any HI.out _).mono ?_; rintro e w0 ⟨rfl, hb0⟩; have sv : Hid (SliceZ w0 _ len p) := sv.out.on hb0; have bel : Hid (Below V.heap.size V w0) := bel.out.trans (hb0.mono bel.out.size); clear hb0)
        | (go_at_call 13; refine (HI.out.plain p len _ _ sv.out HL.out).mono ?_; rintro e w1 ⟨c, rfl, oc, hb1⟩; have sv : Hid (SliceZ w1 _ len p) := sv.out.on hb1; have bel : Hid (Below V.heap.size V w1) := bel.out.trans (hb1.mono bel.out.size); rw [X1.out.2.1, G1.out] at oc; rw [X1.out.1]; have sc := own_sliceZ oc PN1.out; obtain ⟨ac, cc, rfl⟩ := sc.shape; have SC1 : Hid (_) := sc; clear sc oc hb1)
        | (go_at_call_of 18 ac; refine (HI.out.opens f1 _ _ _ SC1.out (by omega)).mono ?_; rintro e w2 ⟨b, rfl, ob, hb2⟩; have sv : Hid (SliceZ w2 _ len p) := sv.out.on hb2; have bel : Hid (Below V.heap.size V w2) := bel.out.trans (hb2.mono bel.out.size); have sb := own_slice ob (fun j hj => SC1.out.sl.bytes _ (openN_lt _ _ hj).2); rw [X1.out.2.2.2.2] at sb; rw [X1.out.2.2.1, X1.out.2.2.2.1]; obtain ⟨ab, cb, eb, _⟩ := sb.shape; subst eb; have SB1p : SliceN w2 (.slice ab len cb) len p := sliceN_cg sb (fun j hj => by rw [← G1.out]; exact plain_in p hj); have k1 := conv_str SB1p; have k2 := conv_str sv.out.sl; clear SB1p; clear sb ob hb2)
        | (go_at_call_of 18 ac; refine (HI.out.opens f1 _ _ _ SC1.out (by omega)).mono ?_; rintro e w2 ⟨b, rfl, ob, hb2⟩; have sv : Hid (SliceZ w2 _ len p) := sv.out.on hb2; have bel : Hid (Below V.heap.size V w2) := bel.out.trans (hb2.mono bel.out.size); have sb := own_slice ob (fun j hj => SC1.out.sl.bytes _ (openN_lt _ _ hj).2); rw [X1.out.2.2.2.2] at sb; rw [X1.out.2.2.1, X1.out.2.2.2.1]; obtain ⟨ab, cb, eb, _⟩ := sb.shape; subst eb; have SB1 : Hid (_) := sb; clear sb ob hb2)
        | (go_at_call 14; refine (HI.out.noise p len _ _ sv.out HL.out).mono ?_; rintro e w3 ⟨c2, rfl, oc2, hb3⟩; have sv : Hid (SliceZ w3 _ len p) := sv.out.on hb3; have bel : Hid (Below V.heap.size V w3) := bel.out.trans (hb3.mono bel.out.size); rw [X2.out.2.1, G2.out] at oc2; rw [X2.out.1]; have sc2 := own_sliceZ oc2 PN2.out; obtain ⟨ac2, cc2, rfl⟩ := sc2.shape; have SC2 : Hid (_) := sc2; clear sc2 oc2 hb3)
        | (go_at_call_of 18 ac2; refine (HI.out.opens f2 _ _ _ SC2.out (by omega)).mono ?_; rintro e w4 ⟨b2, rfl, ob2, hb4⟩; have sv : Hid (SliceZ w4 _ len p) := sv.out.on hb4; have bel : Hid (Below V.heap.size V w4) := bel.out.trans (hb4.mono bel.out.size); have sb2 := own_slice ob2 (fun j hj => SC2.out.sl.bytes _ (openN_lt _ _ hj).2); rw [X2.out.2.2.2.2] at sb2; rw [X2.out.2.2.1, X2.out.2.2.2.1]; obtain ⟨ab2, cb2, eb2, _⟩ := sb2.shape; subst eb2; clear sb2 ob2 hb4)
        | (go_at_call 12; refine (HI.out.pad p len _ _ sv.out HL.out).mono ?_; rintro e w5 ⟨c3, rfl, oc3, hb5⟩; have sv : Hid (SliceZ w5 _ len p) := sv.out.on hb5; have bel : Hid (Below V.heap.size V w5) := bel.out.trans (hb5.mono bel.out.size); rw [G0.out, N3.out] at oc3; rw [E3.out]; have sc3 := own_sliceZ oc3 PN0.out; obtain ⟨ac3, cc3, rfl⟩ := sc3.shape; have SC3 : Hid (_) := sc3; clear sc3 oc3 hb5)
        | (go_at_call_of 17 len; refine (HI.out.cut f0 320 (len : Int) _ _ SC3.out (by omega) (by omega) (by omega)).mono ?_; rintro e w6 ⟨b3, rfl, ob3, hb6⟩; have sv : Hid (SliceZ w6 _ len p) := sv.out.on hb6; have bel : Hid (Below V.heap.size V w6) := bel.out.trans (hb6.mono bel.out.size); have SC4 : Hid (_) := SC3.out.on hb6; rw [C0.out.2.1] at ob3; rw [C0.out.1]; have SB3 : Hid (SliceN w6 b3 len p) := sliceN_cg (own_slice ob3 C0.out.2.2.2) C0.out.2.2.1; obtain ⟨ab3, cb3, eb3, _⟩ := SB3.out.shape; subst eb3; have k3 := conv_str SB3.out; have k4 := conv_str sv.out.sl; clear ob3 hb6))
      by_cases hn : n < 0
      · go_wp2
        go_ret
        exact ⟨rfl, bel.out⟩
      · by_cases hn2 : n > len
        · go_wp2
          go_ret
          exact ⟨rfl, bel.out⟩
        · obtain ⟨m, rfl⟩ : ∃ m : Nat, n = m := ⟨n.toNat, by omega⟩
          have HM : Hid (m ≤ len ∧ len ≤ 320) := ⟨by omega, HLE.out⟩
          have CM : Hid (cutE f0 320 (m : Int) = (if zeroF len p m then 0 else 51) ∧ cutN f0 320 (m : Int) = (if zeroF len p m then m else 0)) := by
            have h := cut_pad p HLE.out (m := m) (by have := HM.out; omega)
            rw [G0.out] at h
            exact h
          go_wp2_with fail
          have SVZ : Hid (SliceZ w6 (.slice av len cv) len p) := sv.out
          have B6 : Hid (Below V.heap.size V w6) := bel.out
          have S4 : Hid (SliceZ w6 (.slice ac3 320 cc3) 320 f0) := SC4.out
          clear sv bel SC4 SB3 SC3 SC1 SC2
          go_loopw [10, 11] (fun l x W => ∃ k : Nat, m ≤ k ∧ k ≤ len ∧ l = .bool (!(zeroF k p m)) ∧ x = .int .i64 k ∧ W = w6) (fun _ x _ => len - (intOf x).toNat)
          case atStart => exact ⟨m, Nat.le_refl _, HM.out.1, by rw [zeroF_end]; rfl, rfl, rfl⟩
          case round =>
            obtain ⟨k, hk1, hk2, rfl, rfl, rfl⟩ := hrel
            by_cases hlt : k < len
            · have i1 : (k : Int) < len := by omega
              have HK : Hid (m ≤ k ∧ k < len) := ⟨hk1, hlt⟩
              obtain ⟨bv, ov, cv', ev, _, _, hcv⟩ := cell_at SVZ.out.sl (by omega)
              injection ev with ev1 _ ev3
              subst ev1
              obtain ⟨y, hy⟩ : ∃ y, p k = y := ⟨_, rfl⟩
              have c1 : wr.cell? ⟨bv, ov + k, none⟩ = some (.int .u8 y) := by rw [hcv k hlt, hy]
              have ZM : Hid (zeroF (k + 1) p m = (zeroF k p m && p k == 0)) := zeroF_more p hk1
              have HY : Hid (p k = y) := hy
              clear hcv hy hk1 hk2 hlt
              cases hz : zeroF k p m with
              | false =>
                have R : Hid (zeroF (k + 1) p m = false) := by show zeroF (k + 1) p m = false; rw [ZM.out, hz]; rfl
                clear hz
                go_wp2
                go_roundw
                case rel => (refine ⟨k + 1, by have := HK.out; omega, by have := HK.out; omega, ?_⟩; have r := R.out; simp [r])
                case measure => have := HK.out; simp [intOf]; omega
              | true =>
                by_cases y0 : y = 0
                · have z0 : ((y : Int) != 0) = false := by simp [y0]
                  have R : Hid (zeroF (k + 1) p m = true) := by show zeroF (k + 1) p m = true; rw [ZM.out, hz, HY.out, y0]; rfl
                  clear hz y0
                  go_wp2
                  go_roundw
                  case rel => (refine ⟨k + 1, by have := HK.out; omega, by have := HK.out; omega, ?_⟩; have r := R.out; simp [r])
                  case measure => have := HK.out; simp [intOf]; omega
                · have z0 : ((y : Int) != 0) = true := by simp [y0]
                  have R : Hid (zeroF (k + 1) p m = false) := by show zeroF (k + 1) p m = false; rw [ZM.out, hz, HY.out]; simp [y0]
                  clear hz y0
                  go_wp2
                  go_roundw
                  case rel => (refine ⟨k + 1, by have := HK.out; omega, by have := HK.out; omega, ?_⟩; have r := R.out; simp [r])
                  case measure => have := HK.out; simp [intOf]; omega
            · have i1 : ¬ (k : Int) < len := by omega
              have ek : k = len := by omega
              have LC : Hid (m ≤ cv) := by
                obtain ⟨a', c', e', h', _⟩ := SVZ.out.sl.shape
                injection e' with _ _ e3
                have := HM.out.1
                show m ≤ cv
                omega
              have SPm : Hid (SliceN wr (sliced av 0 m cv 1) m p) := by
                have h := SliceN.sub SVZ.out.sl 0 m (by omega) HM.out.1
                rw [Nat.sub_zero] at h
                exact sliceN_cg h fun j _ => by rw [Nat.zero_add]
              rw [ek]
              clear hlt hk1 hk2
              cases hz : zeroF len p m with
              | false =>
                have CE : Hid (cutE f0 320 (m : Int) = 51 ∧ cutN f0 320 (m : Int) = 0) := by have := CM.out; rw [hz] at this; exact this
                clear hz
                have i2 : ¬ (len : Int) < len := by omega
                go_wp2_with (go_at_call 17; refine (HI.out.cut f0 320 (m : Int) _ _ S4.out (by omega) (by omega) (by omega)).mono ?_; rintro e w7 ⟨b4, rfl, ob4, hb7⟩; have bel : Hid (Below V.heap.size V w7) := B6.out.trans (hb7.mono B6.out.size); rw [CE.out.2] at ob4; rw [CE.out.1]; obtain ⟨ab4, cb4, rfl⟩ := own_shapeJ ob4; clear ob4 hb7)
                refine wp_region_slotsA 28 194 [167, 168, 169, 170, 171, 172, 173, 174, 175, 176, 177, 178, 179, 180, 181, 182, 183, 184, 185, 186, 187, 188, 189, 190, 191, 192, 193, 4] (fun j r _ => r = bkV true 51 (.slice ab4 0 cb4) (.slice av len cv) m (sliced av 0 m cv 1) (strN p m) j) (by kernel_rfl) (by kernel_rfl) (by kernel_rfl) (by decide) rfl rfl (by decide) (by decide) (fun _ _ _ _ h _ => h) ?_ ?_
                · intro j hj a W hB hf hdep
                  match j, hj with
                  | 0, _ => exact stepV rfl rfl (execMvB rfl (hf 10 (by decide))) ⟨_, rfl, rfl, Below.refl _ _⟩
                  | 1, _ => exact stepV rfl rfl (execMvB rfl (hdep _ rfl 0 rfl)) ⟨_, rfl, rfl, Below.refl _ _⟩
                  | 2, _ => exact stepV rfl (wantedOf rfl (yieldedAt rfl rfl (show a.eval (.tmp 168) = .bool true from hdep _ rfl 1 rfl))) (execMvB rfl (hf 9 (by decide))) ⟨_, rfl, rfl, Below.refl _ _⟩
                  | 3, _ => exact stepV rfl (wantedOf rfl (yieldedAt rfl rfl (show a.eval (.tmp 168) = .bool true from hdep _ rfl 1 rfl))) (execEqE rfl (hdep _ rfl 2 rfl)) ⟨_, rfl, rfl, Below.refl _ _⟩
                  | 4, _ => exact stepV rfl rfl (execPick rfl (show a.eval (.tmp 168) = .bool true from hdep _ rfl 1 rfl) (hdep _ rfl 3 rfl)) ⟨_, rfl, rfl, Below.refl _ _⟩
                  | 5, _ => exact stepV rfl rfl (execMvB rfl (hdep _ rfl 4 rfl)) ⟨_, rfl, rfl, Below.refl _ _⟩
                  | 6, _ => exact stepV rfl (wantedOf rfl (yieldedAt rfl rfl (show a.eval (.tmp 172) = .bool true from hdep _ rfl 5 rfl))) (execMvB rfl (hf 7 (by decide))) ⟨_, rfl, rfl, Below.refl _ _⟩
                  | 7, _ => exact stepV rfl (wantedOf rfl (yieldedAt rfl rfl (show a.eval (.tmp 172) = .bool true from hdep _ rfl 5 rfl))) (execLenV (len := 0) rfl (hdep _ rfl 6 rfl) ⟨_, _, rfl⟩) ⟨_, rfl, rfl, Below.refl _ _⟩
                  | 8, _ => exact stepV rfl (wantedOf rfl (yieldedAt rfl rfl (show a.eval (.tmp 172) = .bool true from hdep _ rfl 5 rfl))) (execEqI rfl (hdep _ rfl 7 rfl)) ⟨_, rfl, rfl, Below.refl _ _⟩
                  | 9, _ => exact stepV rfl rfl (execPick rfl (show a.eval (.tmp 172) = .bool true from hdep _ rfl 5 rfl) (hdep _ rfl 8 rfl)) ⟨_, rfl, rfl, Below.refl _ _⟩
                  | 10, _ => exact stepV rfl rfl (execMvB rfl (hdep _ rfl 9 rfl)) ⟨_, rfl, rfl, Below.refl _ _⟩
                  | 11, _ => exact stepU rfl (unwantedOf rfl (yieldedAt rfl rfl (show a.eval (.tmp 177) = .bool true from hdep _ rfl 10 rfl))) ⟨_, rfl, rfl, Below.refl _ _⟩
                  | 12, _ => exact stepU rfl (unwantedOf rfl (yieldedAt rfl rfl (show a.eval (.tmp 177) = .bool true from hdep _ rfl 10 rfl))) ⟨_, rfl, rfl, Below.refl _ _⟩
                  | 13, _ => exact stepU rfl (unwantedOf rfl (yieldedAt rfl rfl (show a.eval (.tmp 177) = .bool true from hdep _ rfl 10 rfl))) ⟨_, rfl, rfl, Below.refl _ _⟩
                  | 14, _ => exact stepU rfl (unwantedNo rfl (yieldedNo rfl rfl (show a.eval (.tmp 180) = undef from hdep _ rfl 13 rfl))) ⟨_, rfl, rfl, Below.refl _ _⟩
                  | 15, _ => exact stepU rfl (unwantedNo rfl (yieldedNo rfl rfl (show a.eval (.tmp 180) = undef from hdep _ rfl 13 rfl))) ⟨_, rfl, rfl, Below.refl _ _⟩
                  | 16, _ => exact stepU rfl (unwantedOf rfl (yieldedAt rfl rfl (show a.eval (.tmp 177) = .bool true from hdep _ rfl 10 rfl))) ⟨_, rfl, rfl, Below.refl _ _⟩
                  | 17, _ => exact stepU rfl (unwantedOf rfl (yieldedAt rfl rfl (show a.eval (.tmp 177) = .bool true from hdep _ rfl 10 rfl))) ⟨_, rfl, rfl, Below.refl _ _⟩
                  | 18, _ => exact stepU rfl (unwantedNo rfl (yieldedNo rfl rfl (show a.eval (.tmp 184) = undef from hdep _ rfl 17 rfl))) ⟨_, rfl, rfl, Below.refl _ _⟩
                  | 19, _ => exact stepU rfl (unwantedNo rfl (yieldedNo rfl rfl (show a.eval (.tmp 184) = undef from hdep _ rfl 17 rfl))) ⟨_, rfl, rfl, Below.refl _ _⟩
                  | 20, _ => exact stepU rfl (unwantedNo rfl (yieldedNo rfl rfl (show a.eval (.tmp 184) = undef from hdep _ rfl 17 rfl))) ⟨_, rfl, rfl, Below.refl _ _⟩
                  | 21, _ => exact stepU rfl (unwantedNo rfl (yieldedNo rfl rfl (show a.eval (.tmp 184) = undef from hdep _ rfl 17 rfl))) ⟨_, rfl, rfl, Below.refl _ _⟩
                  | 22, _ => exact stepU rfl (unwantedNo rfl (yieldedNo rfl rfl (show a.eval (.tmp 184) = undef from hdep _ rfl 17 rfl))) ⟨_, rfl, rfl, Below.refl _ _⟩
                  | 23, _ => exact stepU rfl (unwantedNo rfl (yieldedNo rfl rfl (show a.eval (.tmp 184) = undef from hdep _ rfl 17 rfl))) ⟨_, rfl, rfl, Below.refl _ _⟩
                  | 24, _ => exact stepU rfl (unwantedNo rfl (yieldedNo rfl rfl (show a.eval (.tmp 184) = undef from hdep _ rfl 17 rfl))) ⟨_, rfl, rfl, Below.refl _ _⟩
                  | 25, _ => exact stepU rfl (unwantedOf rfl (yieldedAt rfl rfl (show a.eval (.tmp 177) = .bool true from hdep _ rfl 10 rfl))) ⟨_, rfl, rfl, Below.refl _ _⟩
                  | 26, _ => exact stepV rfl rfl (execPick rfl (show a.eval (.tmp 177) = .bool true from hdep _ rfl 10 rfl) rfl) ⟨_, rfl, rfl, Below.refl _ _⟩
                  | 27, _ => exact stepV rfl rfl (execAsgC rfl (hdep _ rfl 26 rfl)) ⟨_, rfl, rfl, Below.refl _ _⟩
                  | n + 28, h => exact absurd h (by omega)
                · intro x W hB hS
                  have x27 : x 27 = .bool true := hS 27 (by omega)
                  simp only [putL, List.drop_succ_cons, List.drop_zero, Act.put, List.setIfInBounds_toArray, List.set_cons_succ, List.set_cons_zero, x27]
                  go_wp2
                  go_ret
                  exact ⟨rfl, bel.out.trans (hB.mono bel.out.size)⟩
              | true =>
                have CE : Hid (cutE f0 320 (m : Int) = 0 ∧ cutN f0 320 (m : Int) = m) := by have := CM.out; rw [hz] at this; exact this
                clear hz
                have i2 : ¬ (len : Int) < len := by omega
                go_wp2_with (go_at_call 17; refine (HI.out.cut f0 320 (m : Int) _ _ S4.out (by omega) (by omega) (by omega)).mono ?_; rintro e w7 ⟨b4, rfl, ob4, hb7⟩; have bel : Hid (Below V.heap.size V w7) := B6.out.trans (hb7.mono B6.out.size); rw [CE.out.2] at ob4; rw [CE.out.1]; have SPm : Hid (SliceN w7 (sliced av 0 m cv 1) m p) := SPm.out.on hb7; have SB4 : SliceN w7 b4 m p := sliceN_cg (own_slice ob4 (fun j hj => C0.out.2.2.2 j (by have := HM.out.1; omega))) (fun j hj => C0.out.2.2.1 j (by have := HM.out.1; omega)); obtain ⟨ab4, cb4, rfl⟩ := own_shapeJ ob4; have SB4 : Hid (_) := SB4; clear ob4 hb7)
                refine wp_region_slotsA 28 194 [167, 168, 169, 170, 171, 172, 173, 174, 175, 176, 177, 178, 179, 180, 181, 182, 183, 184, 185, 186, 187, 188, 189, 190, 191, 192, 193, 4] (fun j r _ => r = bkV false 0 (.slice ab4 m cb4) (.slice av len cv) m (sliced av 0 m cv 1) (strN p m) j) (by kernel_rfl) (by kernel_rfl) (by kernel_rfl) (by decide) rfl rfl (by decide) (by decide) (fun _ _ _ _ h _ => h) ?_ ?_
                · intro j hj a W hB hf hdep
                  match j, hj with
                  | 0, _ => exact stepV rfl rfl (execMvB rfl (hf 10 (by decide))) ⟨_, rfl, rfl, Below.refl _ _⟩
                  | 1, _ => exact stepV rfl rfl (execMvB rfl (hdep _ rfl 0 rfl)) ⟨_, rfl, rfl, Below.refl _ _⟩
                  | 2, _ => exact stepU rfl (unwantedOf rfl (yieldedAt rfl rfl (show a.eval (.tmp 168) = .bool false from hdep _ rfl 1 rfl))) ⟨_, rfl, rfl, Below.refl _ _⟩
                  | 3, _ => exact stepU rfl (unwantedOf rfl (yieldedAt rfl rfl (show a.eval (.tmp 168) = .bool false from hdep _ rfl 1 rfl))) ⟨_, rfl, rfl, Below.refl _ _⟩
                  | 4, _ => exact stepV rfl rfl (execPick rfl (show a.eval (.tmp 168) = .bool false from hdep _ rfl 1 rfl) rfl) ⟨_, rfl, rfl, Below.refl _ _⟩
                  | 5, _ => exact stepV rfl rfl (execMvB rfl (hdep _ rfl 4 rfl)) ⟨_, rfl, rfl, Below.refl _ _⟩
                  | 6, _ => exact stepU rfl (unwantedOf rfl (yieldedAt rfl rfl (show a.eval (.tmp 172) = .bool false from hdep _ rfl 5 rfl))) ⟨_, rfl, rfl, Below.refl _ _⟩
                  | 7, _ => exact stepU rfl (unwantedOf rfl (yieldedAt rfl rfl (show a.eval (.tmp 172) = .bool false from hdep _ rfl 5 rfl))) ⟨_, rfl, rfl, Below.refl _ _⟩
                  | 8, _ => exact stepU rfl (unwantedOf rfl (yieldedAt rfl rfl (show a.eval (.tmp 172) = .bool false from hdep _ rfl 5 rfl))) ⟨_, rfl, rfl, Below.refl _ _⟩
                  | 9, _ => exact stepV rfl rfl (execPick rfl (show a.eval (.tmp 172) = .bool false from hdep _ rfl 5 rfl) rfl) ⟨_, rfl, rfl, Below.refl _ _⟩
                  | 10, _ => exact stepV rfl rfl (execMvB rfl (hdep _ rfl 9 rfl)) ⟨_, rfl, rfl, Below.refl _ _⟩
                  | 11, _ => exact stepV rfl (wantedOf rfl (yieldedAt rfl rfl (show a.eval (.tmp 177) = .bool false from hdep _ rfl 10 rfl))) (execMvB rfl (hf 10 (by decide))) ⟨_, rfl, rfl, Below.refl _ _⟩
                  | 12, _ => exact stepV rfl (wantedOf rfl (yieldedAt rfl rfl (show a.eval (.tmp 177) = .bool false from hdep _ rfl 10 rfl))) (execNot rfl (hdep _ rfl 11 rfl)) ⟨_, rfl, rfl, Below.refl _ _⟩
                  | 13, _ => exact stepV rfl (wantedOf rfl (yieldedAt rfl rfl (show a.eval (.tmp 177) = .bool false from hdep _ rfl 10 rfl))) (execMvB rfl (hdep _ rfl 12 rfl)) ⟨_, rfl, rfl, Below.refl _ _⟩
                  | 14, _ => exact stepV rfl (wantedOf rfl (yieldedAt rfl rfl (show a.eval (.tmp 180) = .bool true from hdep _ rfl 13 rfl))) (execMvB rfl (hf 9 (by decide))) ⟨_, rfl, rfl, Below.refl _ _⟩
                  | 15, _ => exact stepV rfl (wantedOf rfl (yieldedAt rfl rfl (show a.eval (.tmp 180) = .bool true from hdep _ rfl 13 rfl))) (execEqE rfl (hdep _ rfl 14 rfl)) ⟨_, rfl, rfl, Below.refl _ _⟩
                  | 16, _ => exact stepV rfl (wantedOf rfl (yieldedAt rfl rfl (show a.eval (.tmp 177) = .bool false from hdep _ rfl 10 rfl))) (execPick rfl (show a.eval (.tmp 180) = .bool true from hdep _ rfl 13 rfl) (hdep _ rfl 15 rfl)) ⟨_, rfl, rfl, Below.refl _ _⟩
                  | 17, _ => exact stepV rfl (wantedOf rfl (yieldedAt rfl rfl (show a.eval (.tmp 177) = .bool false from hdep _ rfl 10 rfl))) (execMvB rfl (hdep _ rfl 16 rfl)) ⟨_, rfl, rfl, Below.refl _ _⟩
                  | 18, _ => exact stepV rfl (wantedOf rfl (yieldedAt rfl rfl (show a.eval (.tmp 184) = .bool true from hdep _ rfl 17 rfl))) (execMvB rfl (hf 7 (by decide))) ⟨_, rfl, rfl, Below.refl _ _⟩
                  | 19, _ => exact stepV rfl (wantedOf rfl (yieldedAt rfl rfl (show a.eval (.tmp 184) = .bool true from hdep _ rfl 17 rfl))) (execStr rfl (hdep _ rfl 18 rfl) (SB4.out.on hB)) ⟨_, rfl, rfl, Below.refl _ _⟩
                  | 20, _ => exact stepV rfl (wantedOf rfl (yieldedAt rfl rfl (show a.eval (.tmp 184) = .bool true from hdep _ rfl 17 rfl))) (execMvB rfl (hf 0 (by decide))) ⟨_, rfl, rfl, Below.refl _ _⟩
                  | 21, _ => exact stepV rfl (wantedOf rfl (yieldedAt rfl rfl (show a.eval (.tmp 184) = .bool true from hdep _ rfl 17 rfl))) (execMvB rfl (hf 1 (by decide))) ⟨_, rfl, rfl, Below.refl _ _⟩
                  | 22, _ => exact stepV rfl (wantedOf rfl (yieldedAt rfl rfl (show a.eval (.tmp 184) = .bool true from hdep _ rfl 17 rfl))) (execSlH rfl (hdep _ rfl 20 rfl) (hdep _ rfl 21 rfl) (slice_h av len cv m LC.out _)) ⟨_, rfl, rfl, Below.refl _ _⟩
                  | 23, _ => exact stepV rfl (wantedOf rfl (yieldedAt rfl rfl (show a.eval (.tmp 184) = .bool true from hdep _ rfl 17 rfl))) (execStr rfl (hdep _ rfl 22 rfl) (SPm.out.on hB)) ⟨_, rfl, rfl, Below.refl _ _⟩
                  | 24, _ => exact stepV rfl (wantedOf rfl (yieldedAt rfl rfl (show a.eval (.tmp 184) = .bool true from hdep _ rfl 17 rfl))) (execEqlS rfl (hdep _ rfl 19 rfl) (hdep _ rfl 23 rfl)) ⟨_, rfl, rfl, Below.refl _ _⟩
                  | 25, _ => exact stepV rfl (wantedOf rfl (yieldedAt rfl rfl (show a.eval (.tmp 177) = .bool false from hdep _ rfl 10 rfl))) (execPick rfl (show a.eval (.tmp 184) = .bool true from hdep _ rfl 17 rfl) (hdep _ rfl 24 rfl)) ⟨_, rfl, rfl, Below.refl _ _⟩
                  | 26, _ => exact stepV rfl rfl (execPick rfl (show a.eval (.tmp 177) = .bool false from hdep _ rfl 10 rfl) (hdep _ rfl 25 rfl)) ⟨_, rfl, rfl, Below.refl _ _⟩
                  | 27, _ => exact stepV rfl rfl (execAsgC rfl (hdep _ rfl 26 rfl)) ⟨_, rfl, rfl, Below.refl _ _⟩
                  | n + 28, h => exact absurd h (by omega)
                · intro x W hB hS
                  have x27 : x 27 = .bool true := hS 27 (by omega)
                  simp only [putL, List.drop_succ_cons, List.drop_zero, Act.put, List.setIfInBounds_toArray, List.set_cons_succ, List.set_cons_zero, x27]
                  go_wp2
                  go_ret
                  exact ⟨rfl, bel.out.trans (hB.mono bel.out.size)⟩
end Go.Proofs.Ytmmdaiknggjmmaa.Cel
