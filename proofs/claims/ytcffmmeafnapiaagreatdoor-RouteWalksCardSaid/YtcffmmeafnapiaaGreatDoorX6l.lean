import Derived.Test.YtcffmmeafnapiaaGreatDoorX5p
import Derived.Test.YtcffmmeafnapiaaGreatDoorX5n
import Derived.Test.YtcffmmeafnapiaaGreatDoorC6
namespace Go.Proofs.YtcffmmeafnapiaaGreatDoor.Oni
open Go.RowKit Gf8 Aes By8 Cel
/- The reference's Forge, Wrap. -/

theorem some_nil' {W : World} {v : Value} {n : Nat} {p : Nat → Nat} (h : SliceN W v n p) (h0 : 0 < n) : ∀ l c, v = .slice none l c → c = 0 := by
  intro l cap e
  obtain ⟨a, c, e', _, _, e3⟩ := h.shape
  obtain ⟨b, o, rfl, _⟩ := e3 h0
  rw [e] at e'
  cases e'
theorem execRemI {o : Oper} {a : Act} {w : World} {x y : Operand} {p q : Nat} (ho : o.op = .binOp .rem 3 x y 3) (hx : a.eval x = .int .i64 p) (hy : a.eval y = .int .i64 q) (h : q ≠ 0) (hp : p < 9223372036854775808) : (execOp a.eval o).run Tryz.prog w = .ok (.value (.int .i64 (p % q : Nat))) w := by
  have _ := hp
  unfold execOp
  simp only [ho, hx, hy]
  simp [go_sem]
  rw [if_neg h, Int.tmod_eq_emod_of_nonneg (Int.natCast_nonneg p)]
/-- The plain box's row up to i bytes of what is inside. -/
def plU (n : Nat) (inner : Nat → Nat) (i : Nat) : Nat → Nat := fun j => if j = 0 then n / 256 else if j = 1 then n % 256 else if j < 2 + i then inner (j - 2) else 0
theorem plU_0 (N n : Nat) (inner : Nat → Nat) : bA N (updN (updN (fun _ => 0) 0 (n / 256)) 1 (n % 256)) = bA N (plU n inner 0) := by
  refine bA_congr fun j _ => ?_
  unfold updN plU
  by_cases h0 : j = 0
  · subst h0; rfl
  · by_cases h1 : j = 1
    · subst h1; rfl
    · rw [if_neg h1, if_neg h0, if_neg h0, if_neg h1, if_neg (by omega)]
theorem plU_s (N n : Nat) (inner : Nat → Nat) (i : Nat) : bA N (updN (plU n inner i) (2 + i) (inner i)) = bA N (plU n inner (i + 1)) := by
  refine bA_congr fun j _ => ?_
  unfold updN plU
  by_cases h : j = 2 + i
  · subst h
    rw [if_pos rfl, if_neg (by omega), if_neg (by omega), if_pos (by omega)]
    congr 1
    omega
  · rw [if_neg h]
    by_cases h0 : j = 0
    · rw [if_pos h0, if_pos h0]
    · by_cases h1 : j = 1
      · rw [if_neg h0, if_pos h1, if_neg h0, if_pos h1]
      · rw [if_neg h0, if_neg h1, if_neg h0, if_neg h1]
        by_cases h2 : j < 2 + i
        · rw [if_pos h2, if_pos (by omega)]
        · rw [if_neg h2, if_neg (by omega)]
theorem plU_n (N n : Nat) (inner : Nat → Nat) : bA N (plU n inner n) = bA N (pbF n inner) := by
  refine bA_congr fun j _ => ?_
  unfold plU pbF cellF hd2
  by_cases h0 : j = 0
  · subst h0; rfl
  · by_cases h1 : j = 1
    · subst h1; rfl
    · rw [if_neg h0, if_neg h1, if_neg (show ¬ j < 2 by omega)]
end Go.Proofs.YtcffmmeafnapiaaGreatDoor.Oni

namespace Go.Proofs.YtcffmmeafnapiaaGreatDoor.Oni
open Go.RowKit Gf8 Aes By8 Cel
/- OnionDerives, OnionWraps. -/

theorem partA {N k off : Nat} (f : Nat → Nat) (h : off + k ≤ N) : (bA N f).extract off (off + k) = bA k fun j => f (off + j) := by
  apply Array.ext_getElem?
  intro j
  by_cases hj : j < k
  · have h2 := bA_at N f (show off + j < N by omega)
    rw [bA_at k _ hj, Array.getElem?_extract_of_lt (by rw [bA_size]; omega), ← Array.getElem?_eq_getElem, h2]
  · rw [Array.getElem?_eq_none (by simp [bA_size]; omega), Array.getElem?_eq_none (by rw [bA_size]; omega)]
theorem partK0 (f : Nat → Nat) (W : World) : (part 36 (bA 80 f) 0).run Tryz.prog W = .ok (.agg (bA 16 fun j => f (0 + j))) W := by
  have e := partA (N := 80) (k := 16) (off := 0) f (by omega)
  simp only [Nat.zero_add] at e ⊢
  simp [go_sem, part, e]
theorem partK1 (f : Nat → Nat) (W : World) : (part 52 (bA 80 f) 16).run Tryz.prog W = .ok (.agg (bA 32 fun j => f (16 + j))) W := by
  have e := partA (N := 80) (k := 32) (off := 16) f (by omega)
  simp [go_sem, part, e]
theorem partK2 (f : Nat → Nat) (W : World) : (part 52 (bA 80 f) 48).run Tryz.prog W = .ok (.agg (bA 32 fun j => f (48 + j))) W := by
  have e := partA (N := 80) (k := 32) (off := 48) f (by omega)
  simp [go_sem, part, e]
theorem equalIn32 (d : Nat) (f g : Nat → Nat) (W : World) : (Op.equalIn (d + 2) 52 (.agg (bA 32 f)) (.agg (bA 32 g))).run Tryz.prog W = .ok (eqB 32 f g) W := by
  have hs : ∀ W, (sizeOf 5).run Tryz.prog W = .ok 1 W := by intro W; simp [go_sem]
  rw [Op.equalIn]
  simp only [Sem.run_bind, run_underlying Tryz.underlying52, Result.andThen_ok, Std.Legacy.Range.forIn_eq_forIn_range', hs]
  have e := loopB 32 d f g (List.range' 0 [:32].size) (by intro i hi; simp at hi; simpa using hi) W
  rw [e]
  have hr : List.range' 0 [:32].size = List.range 32 := by decide
  rw [hr]
  unfold eqB
  cases (List.range 32).all fun i => (f i : Int) == (g i : Int)
  · simp only [Result.andThen_ok]; rfl
  · simp only [Result.andThen_ok]; rfl
theorem equalInO (d : Nat) (f : Nat → Nat) (W : World) : (Op.equalIn (d + 3) 54 (.agg (bA 80 f)) (.agg (bA 80 f))).run Tryz.prog W = .ok true W := by
  rw [Op.equalIn]
  simp only [Sem.run_bind, run_underlying Tryz.underlying54, Result.andThen_ok]
  have hp : Tryz.prog.stoodInHeld 54 = false := by kernel_rfl
  have e1 : ∀ f : Nat → Nat, eqB 16 f f = true := fun f => eqB_true fun _ _ => rfl
  have e2 : ∀ f : Nat → Nat, eqB 32 f f = true := fun f => eqB_true fun _ _ => rfl
  simp [hp, partK0, partK1, partK2, equalIn16, equalIn32, e1, e2]
theorem execEqK {o : Oper} {a : Act} {w : World} {x y : Operand} {f : Nat → Nat} (ho : o.op = .binOp .eql 54 x y 54) (hx : a.eval x = .agg (bA 80 f)) (hy : a.eval y = .agg (bA 80 f)) :
    (execOp a.eval o).run Tryz.prog w = .ok (.value (.bool true)) w := by
  have hg : Tryz.prog.eqGuardType Tryz.prog.depth 54 = false := by kernel_rfl
  have hb : (binOp .eql 54 (.agg (bA 80 f)) (.agg (bA 80 f))).run Tryz.prog w = .ok (.bool true) w := by
    unfold binOp
    have h : (Op.equal 54 (.agg (bA 80 f)) (.agg (bA 80 f))).run Tryz.prog w = .ok true w := equalInO 9997 f w
    simp only [Sem.run_bind, h, Result.andThen_ok, Sem.run_pure]
  unfold execOp
  simp only [ho, hx, hy, eqGuard, Sem.run_bind]
  rw [if_neg (by decide)]
  simp only [Sem.run_bind, run_program, Result.andThen_ok, hg, Bool.not_false, if_true, Sem.run_pure, hb]
/-- What Derive answers, whatever the key. -/
def dkA (lk : Nat) (key nonce : Nat → Nat) : Nat → Nat := if lk = 32 then dk key nonce else fun _ => 0
def dkE (lk : Nat) : Nat := if lk = 32 then 0 else 2
theorem pder_any (key nonce : Nat → Nat) (lk : Nat) (v : Value) (V : World) (hG : Glob V) (hn : By nonce) (hv : SliceN V v lk key) :
    Calls Tryz.prog 40 #[v, .agg (bA 16 nonce)] V fun e w' => e = .returned (.tuple #[.agg (bA 80 (dkA lk key nonce)), .int .i64 (dkE lk : Nat)]) ∧ Below V.heap.size V w' := by
  by_cases h : lk = 32
  · subst h
    exact pder_ok key nonce v V hG hn hv
  · have e1 : dkA lk key nonce = fun _ => 0 := if_neg h
    have e2 : dkE lk = 2 := if_neg h
    rw [e1, e2]
    exact pder_bad key nonce lk v V hv h
theorem rder_any (key nonce : Nat → Nat) (lk : Nat) (v : Value) (V : World) (hn : By nonce) (hv : SliceN V v lk key) :
    Calls Tryz.prog 20 #[v, .agg (bA 16 nonce)] V fun e w' => e = .returned (.tuple #[.agg (bA 80 (dkA lk key nonce)), .int .i64 (dkE lk : Nat)]) ∧ Below V.heap.size V w' := by
  by_cases h : lk = 32
  · subst h
    exact rder_ok key nonce v V hn hv
  · have e1 : dkA lk key nonce = fun _ => 0 := if_neg h
    have e2 : dkE lk = 2 := if_neg h
    rw [e1, e2]
    exact rder_bad key nonce lk v V hv h
/-- A Job's cells. -/
def jC (vk : Value) (nonce : Nat → Nat) (left : Int) (vi : Value) : Array Value := (vk :: (bytesL 16 nonce ++ [.int .i64 left, vi])).toArray
theorem jC_at {W : World} {J : Nat} {vk : Value} {nonce : Nat → Nat} {left : Int} {vi : Value} {t : TypeId} {fr : Nat × Nat} (h : W.heap[J]? = some (.cells (jC vk nonce left vi) t fr)) :
    W.cell? ⟨J, 0, none⟩ = some vk ∧ (∀ j, j < 16 → W.cell? ⟨J, 1 + j, none⟩ = some (.int .u8 (nonce j))) ∧ W.cell? ⟨J, 17, none⟩ = some (.int .i64 left) ∧ W.cell? ⟨J, 18, none⟩ = some vi := by
  refine ⟨?_, fun j hj => ?_, ?_, ?_⟩
  · rw [cell_of_row _ _ _ _ _ _ h]; rfl
  · rw [cell_of_row _ _ _ _ _ _ h, jC, List.getElem?_toArray, Nat.add_comm, List.getElem?_cons_succ, List.getElem?_append_left (by rw [bytesL_len]; exact hj)]
    exact bytesL_at 16 nonce hj
  · rw [cell_of_row _ _ _ _ _ _ h]; rfl
  · rw [cell_of_row _ _ _ _ _ _ h]; rfl
end Go.Proofs.YtcffmmeafnapiaaGreatDoor.Oni

namespace Go.Proofs.YtcffmmeafnapiaaGreatDoor.Oni
open Go.RowKit Gf8 Aes By8 Cel
/- OnionOne. -/

/-- What a cell that is peeled tells. -/
theorem pe_parts {lk len : Nat} {left : Int} {key c : Nat → Nat} (h : peE lk left len key c = 0) : lk = 32 ∧ 1 ≤ left ∧ left ≤ 8 ∧ len = 320 ∧ (∀ j, sz left ≤ j → j < 320 → c j = 0) ∧ peT key left c = true ∧ inOk (sz left - 32) (peP key c) = true := by
  unfold peE at h
  by_cases h1 : lk ≠ 32 ∨ sz left = 0
  · rw [if_pos h1] at h; omega
  · rw [if_neg h1] at h
    have hl : lk = 32 := by
      by_cases e : lk = 32
      · exact e
      · exact absurd (Or.inl e) h1
    have hs : sz left ≠ 0 := fun e => h1 (Or.inr e)
    obtain ⟨g1, g2, g3, g4⟩ := sz_pos hs
    by_cases h2 : cutE c len (sz left) ≠ 0
    · rw [if_pos h2] at h; exact absurd h h2
    · rw [if_neg h2] at h
      have hc : cutE c len (sz left) = 0 := by omega
      have hlen : len = 320 := by
        unfold cutE at hc
        by_cases e : len = 320
        · exact e
        · rw [if_pos e] at hc; omega
      have hz : ∀ j, sz left ≤ j → j < 320 → c j = 0 := by
        unfold cutE at hc
        have := sz_le left
        rw [if_neg (by simp; exact hlen), if_neg (by omega)] at hc
        by_cases e : zeroFrom c (sz left : Int).toNat = true
        · intro j h1 h2
          exact (zeroFrom_iff _ _).1 e j (by simp; exact h1) h2
        · rw [if_neg e] at hc; omega
      by_cases h3 : peT key left c = false
      · rw [if_pos h3] at h; omega
      · rw [if_neg h3] at h
        by_cases h4 : inOk (sz left - 32) (peP key c) = false
        · rw [if_pos h4] at h; omega
        · exact ⟨hl, g1, g2, hlen, hz, by simpa using h3, by simpa using h4⟩
/-- Opened by hand and wrapped again it is that cell. -/
theorem one_cells {L len : Nat} {key c : Nat → Nat} (h : peE 32 L len key c = 0) (hb : ∀ j, j < 320 → c j < 256) : ∀ j, j < 320 → cwF key c L (inN (peP key c)) (fun i => peP key c (2 + i)) j = c j := by
  obtain ⟨_, g1, g2, _, hz, ht, hok⟩ := pe_parts h
  have hL : 1 ≤ L ∧ L ≤ 8 := by omega
  have s := szL hL
  obtain ⟨pl, hpl⟩ : ∃ pl, peP key c = pl := ⟨_, rfl⟩
  rw [hpl] at hok ⊢
  have plb : ∀ j, j < sz (L : Int) - 32 → pl j < 256 := fun j hj => by rw [← hpl]; exact peP_lt (hb _ (by omega))
  unfold inOk at hok
  rw [Bool.and_eq_true] at hok
  have hn := of_decide_eq_true hok.1
  have hzz := (zeroF_iff _ _ _).1 hok.2
  have p0 := plb 0 (by omega)
  have p1 := plb 1 (by omega)
  have pb : ∀ j, j < sz (L : Int) - 32 → pbF (inN pl) (fun i => pl (2 + i)) j = pl j := fun j hj => by
    unfold pbF cellF hd2
    by_cases h2 : j < 2
    · rw [if_pos h2]
      unfold inN
      by_cases h0 : j = 0
      · subst h0; rw [if_pos rfl]; omega
      · obtain rfl : j = 1 := by omega
        rw [if_neg (by omega)]; omega
    · rw [if_neg h2]
      by_cases h3 : j < 2 + inN pl
      · rw [if_pos h3]; show pl (2 + (j - 2)) = pl j; congr 1; omega
      · rw [if_neg h3]; exact (hzz j (by omega) hj).symm
  have bx : ∀ j, j < sz (L : Int) - 32 → bxF (dk key c) (pbF (inN pl) fun i => pl (2 + i)) j = c (32 + j) := fun j hj => by
    have e : bxF (dk key c) (pbF (inN pl) fun i => pl (2 + i)) j = bxF (dk key c) pl j := by
      unfold bxF maskF
      rw [pb j hj]
    rw [e, ← hpl]
    unfold peP bxF maskF
    rw [Nat.xor_assoc, Nat.xor_self, Nat.xor_zero]
  intro j hj
  by_cases hS : j < sz (L : Int)
  · rw [cw_in j hS]
    by_cases h16 : j < 16
    · exact wr_nonce j h16
    · by_cases h32 : j < 32
      · have e := wr_tag (key := key) (nonce := c) (L := L) (n := inN pl) (inner := fun i => pl (2 + i)) (j - 16) (by omega)
        rw [show 16 + (j - 16) = j by omega] at e
        rw [e]
        unfold peT at ht
        rw [eqB_iff] at ht
        have := ht (j - 16) (by omega)
        rw [show 16 + (j - 16) = j by omega, show (L : Int).toNat = L from by simp] at this
        rw [this]
        exact congrFun (tgF_congr (fun _ _ => rfl) bx) _
      · have e := wr_box (key := key) (nonce := c) (L := L) (n := inN pl) (inner := fun i => pl (2 + i)) (j - 32)
        rw [show 32 + (j - 32) = j by omega] at e
        rw [e, bx _ (by omega)]
        congr 1
        omega
  · rw [cw_out j (by omega), hz j (by omega) hj]
theorem pC_arr {W : World} {g : Nat} {cv : Value} {r : Nat → Nat} {t : TypeId} (h : W.heap[g]? = some (.cells (pC cv r) t)) : ∀ j, j < 16 → W.cell? ⟨g, 1 + j, none⟩ = some (.int .u8 (r j)) := by
  intro j hj
  rw [cell_of_row _ _ _ _ _ _ h, pC, List.getElem?_toArray, Nat.add_comm, List.getElem?_cons_succ]
  exact bytesL_at 16 r hj
/-- What the region that opens the box yields. -/
def oxT (K : Nat) (D pl : Nat → Nat) (vc vb : Value) (S N : Nat) (W0 : World) (l : Nat → Bool) (x : Nat → Value) (W : World) : Prop :=
  (l 0 = true → x 0 = .pointer (some ⟨K, 0, none⟩)) ∧ (l 1 = true → x 1 = .agg (bA 16 fun j => D (0 + j))) ∧ (l 2 = true → x 2 = .agg (bA 16 fun _ => 0)) ∧ (l 3 = true → x 3 = vc) ∧ (l 4 = true → x 4 = .int .i64 (S : Int)) ∧ (l 5 = true → x 5 = vb) ∧ (l 6 = true → W.ownsRow W0.heap.size 5 1 (x 6) N (bytesL N pl)) ∧ (l 7 = true → x 7 = x 6) ∧ Below W0.heap.size W0 W
def onV (v : Value) (b off p0 p1 n0 : Nat) (j : Nat) : Value :=
  match j with
  | 0 => v | 1 => .pointer (some ⟨b, off + 0, none⟩) | 2 => .int .u8 p0 | 3 => .int .i64 p0 | 4 => .int .i64 ((256 * p0 : Nat) : Int) | 5 => v | 6 => .pointer (some ⟨b, off + 1, none⟩) | 7 => .int .u8 p1 | 8 => .int .i64 p1 | _ => .int .i64 n0
theorem execMul256 {o : Oper} {a : Act} {w : World} {y : Operand} {p : Nat} (ho : o.op = .binOp .mul 3 (.const (.int .i64 256)) y 3) (hy : a.eval y = .int .i64 (p : Int)) (hp : p < 256) : (execOp a.eval o).run Tryz.prog w = .ok (.value (.int .i64 ((256 * p : Nat) : Int))) w := by
  have e : IntKind.i64.wrap (256 * (p : Int)) = 256 * (p : Int) := by simp [IntKind.wrap, IntKind.bits, IntKind.signed]; omega
  unfold execOp
  simp only [ho, hy]
  simp [go_sem, e]
theorem execAddI {o : Oper} {a : Act} {w : World} {x y : Operand} {p q : Nat} (ho : o.op = .binOp .add 3 x y 3) (hx : a.eval x = .int .i64 (p : Int)) (hy : a.eval y = .int .i64 (q : Int)) (hp : p < 100000) (hq : q < 100000) : (execOp a.eval o).run Tryz.prog w = .ok (.value (.int .i64 ((p + q : Nat) : Int))) w := by
  have e : IntKind.i64.wrap ((p : Int) + (q : Int)) = (p : Int) + (q : Int) := by simp [IntKind.wrap, IntKind.bits, IntKind.signed]; omega
  unfold execOp
  simp only [ho, hx, hy]
  simp [go_sem, e]
end Go.Proofs.YtcffmmeafnapiaaGreatDoor.Oni

namespace Go.Proofs.YtcffmmeafnapiaaGreatDoor.Oni
open Go.RowKit Gf8 Aes By8 Cel
/- The reference's Peel: what it needs. -/

theorem pC_st1 (cv : Value) (r : Nat → Nat) : ((pC cv fun _ => 0).toList.take 1 ++ (bA 16 r).toList ++ (pC cv fun _ => 0).toList.drop (1 + (bA 16 r).size)).toArray = pC cv r := by
  rw [bA_size]
  have h1 : (pC cv fun _ => 0).toList.take 1 = [cv] := rfl
  have h2 : (pC cv fun _ => 0).toList.drop (1 + 16) = [] := List.drop_of_length_le (by rw [Array.length_toList, pC_size]; exact Nat.le_refl _)
  rw [h1, h2, List.append_nil]
  rfl
theorem execStRep {o : Oper} {a : Act} {w : World} {x y : Operand} {g : Nat} {r : Nat → Nat} {cv : Value} {t : TypeId} (ho : o.op = .store 36 x y) (hx : a.eval x = .pointer (some ⟨g, 1, none⟩)) (hy : a.eval y = .agg (bA 16 r)) (hg : w.heap[g]? = some (.cells (pC cv fun _ => 0) t)) :
    (execOp a.eval o).run Tryz.prog w = .ok .skip (w.setRow g (pC cv r)) := by
  have h := Aes.execStMid (P := Tryz.prog) ho hx hy hg (by rw [bA_size, pC_size]; omega) (size16 r) (bA_one 16 r)
  rw [pC_st1] at h
  exact h
theorem execStCell {o : Oper} {a : Act} {w : World} {x y : Operand} {g : Nat} {r : Nat → Nat} {cv : Value} {ao : Option Addr} {n c : Nat} {t : TypeId} (ho : o.op = .store 23 x y) (hx : a.eval x = .pointer (some ⟨g, 0, none⟩)) (hy : a.eval y = .slice ao n c) (hg : w.heap[g]? = some (.cells (pC cv r) t)) :
    (execOp a.eval o).run Tryz.prog w = .ok .skip (w.setRow g (pC (.slice ao n c) r)) := by
  have hc : w.cell? ⟨g, 0, none⟩ = some cv := pC_at hg
  have hz := frozen4 (o := 0) hg
  have e : w.setCell ⟨g, 0, none⟩ (.slice ao n c) = w.setRow g (pC (.slice ao n c) r) := by
    rw [setCell_eq_setRow w g 0 (pC cv r) t _ _ hg]
    rfl
  unfold execOp
  simp only [ho, hx, hy]
  simp [go_sem, hc, hz, e]
/-- What the region of the tag knows. -/
def rpT (D c tg : Nat → Nat) (L : Nat) (ov vb : Value) (W0 : World) (l : Nat → Bool) (x : Nat → Value) (W : World) : Prop :=
  (l 0 = true → x 0 = .agg (bA 80 D)) ∧ (l 1 = true → x 1 = .int .i64 (L : Int)) ∧ (l 2 = true → x 2 = .agg (bA 16 c)) ∧ (l 3 = true → x 3 = ov) ∧ (l 4 = true → x 4 = vb) ∧ (l 5 = true → x 5 = .agg (bA 16 tg)) ∧
  (l 6 = true → ∃ I, x 6 = .pointer (some ⟨I, 0, none⟩) ∧ W0.heap.size ≤ I ∧ (l 7 = false → W.heap[I]? = some (.cells (bA 16 fun _ => 0) 36)) ∧ (l 7 = true → W.heap[I]? = some (.cells (bA 16 tg) 36))) ∧ Below W0.heap.size W0 W
/-- What the region of the mask knows. -/
def rmT (K : Nat) (D pl : Nat → Nat) (ov vb : Value) (N : Nat) (W0 : World) (l : Nat → Bool) (x : Nat → Value) (W : World) : Prop :=
  (l 0 = true → x 0 = .pointer (some ⟨K, 0, none⟩)) ∧ (l 1 = true → x 1 = .agg (bA 16 fun j => D (0 + j))) ∧ (l 2 = true → x 2 = .agg (bA 16 fun _ => 0)) ∧ (l 3 = true → x 3 = ov) ∧ (l 4 = true → x 4 = vb) ∧ (l 5 = true → SliceN W (x 5) N pl) ∧ (l 6 = true → x 6 = x 5) ∧ Below W0.heap.size W0 W
/-- What the region of the replay tag knows. -/
def rrT (K : Nat) (D rp : Nat → Nat) (ov v32 : Value) (W0 : World) (l : Nat → Bool) (x : Nat → Value) (W : World) : Prop :=
  (l 0 = true → x 0 = .pointer (some ⟨K, 48, none⟩)) ∧ (l 1 = true → x 1 = .agg (bA 32 fun j => D (48 + j))) ∧ (l 2 = true → x 2 = ov) ∧ (l 3 = true → x 3 = v32) ∧ (l 4 = true → x 4 = .agg (bA 16 rp)) ∧ (l 5 = true → x 5 = .pointer (some ⟨W0.heap.size, 1, none⟩)) ∧
  (l 6 = false → W.heap[W0.heap.size]? = some (.cells (pC (.slice none 0 0) fun _ => 0) 39)) ∧ (l 6 = true → W.heap[W0.heap.size]? = some (.cells (pC (.slice none 0 0) rp) 39)) ∧ Below W0.heap.size W0 W
theorem execFldQ0 {o : Oper} {a : Act} {w : World} {x : Operand} {g : Nat} (ho : o.op = .fieldAddr 39 x 0) (hx : a.eval x = .pointer (some ⟨g, 0, none⟩)) : (execOp a.eval o).run Tryz.prog w = .ok (.value (.pointer (some ⟨g, 0, none⟩))) w := by
  unfold execOp
  simp only [ho, hx]
  simp [go_sem]
theorem execFldQ1 {o : Oper} {a : Act} {w : World} {x : Operand} {g : Nat} (ho : o.op = .fieldAddr 39 x 1) (hx : a.eval x = .pointer (some ⟨g, 0, none⟩)) : (execOp a.eval o).run Tryz.prog w = .ok (.value (.pointer (some ⟨g, 1, none⟩))) w := by
  unfold execOp
  simp only [ho, hx]
  simp [go_sem]
end Go.Proofs.YtcffmmeafnapiaaGreatDoor.Oni
