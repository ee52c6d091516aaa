import Derived.Test.YtfhldpdnoaoohaaDoorX6c
namespace Go.Proofs.YtfhldpdnoaoohaaDoor.Oni
open Go.RowKit Gf8 Aes By8 Cel
/- OnionOne. -/

/-- What a cell that is peeled tells. -/
theorem pe_parts {lk len : Nat} {left : Int} {key c : Nat → Nat} (h : peE lk left len key c = 0) : lk = 32 ∧ 1 ≤ left ∧ left ≤ 8 ∧ len = 320 ∧ (∀ j, sz left ≤ j → j < 320 → c j = 0) ∧ peT key left c = true ∧ inOk (sz left - 32) (peP key c) = true := by
  unfold peE at h
  by_cases h1 : lk ≠ 32 ∨ sz left = 0
  · rw [if_pos h1] at h; omega
  · rw [if_neg h1] at h
    have hl : lk = 32 := by
      by_cases e : lk = 32
      · exact e
      · exact absurd (Or.inl e) h1
    have hs : sz left ≠ 0 := fun e => h1 (Or.inr e)
    obtain ⟨g1, g2, g3, g4⟩ := sz_pos hs
    by_cases h2 : cutE c len (sz left) ≠ 0
    · rw [if_pos h2] at h; exact absurd h h2
    · rw [if_neg h2] at h
      have hc : cutE c len (sz left) = 0 := by omega
      have hlen : len = 320 := by
        unfold cutE at hc
        by_cases e : len = 320
        · exact e
        · rw [if_pos e] at hc; omega
      have hz : ∀ j, sz left ≤ j → j < 320 → c j = 0 := by
        unfold cutE at hc
        have := sz_le left
        rw [if_neg (by simp; exact hlen), if_neg (by omega)] at hc
        by_cases e : zeroFrom c (sz left : Int).toNat = true
        · intro j h1 h2
          exact (zeroFrom_iff _ _).1 e j (by simp; exact h1) h2
        · rw [if_neg e] at hc; omega
      by_cases h3 : peT key left c = false
      · rw [if_pos h3] at h; omega
      · rw [if_neg h3] at h
        by_cases h4 : inOk (sz left - 32) (peP key c) = false
        · rw [if_pos h4] at h; omega
        · exact ⟨hl, g1, g2, hlen, hz, by simpa using h3, by simpa using h4⟩
/-- Opened by hand and wrapped again it is that cell. -/
theorem one_cells {L len : Nat} {key c : Nat → Nat} (h : peE 32 L len key c = 0) (hb : ∀ j, j < 320 → c j < 256) : ∀ j, j < 320 → cwF key c L (inN (peP key c)) (fun i => peP key c (2 + i)) j = c j := by
  obtain ⟨_, g1, g2, _, hz, ht, hok⟩ := pe_parts h
  have hL : 1 ≤ L ∧ L ≤ 8 := by omega
  have s := szL hL
  obtain ⟨pl, hpl⟩ : ∃ pl, peP key c = pl := ⟨_, rfl⟩
  rw [hpl] at hok ⊢
  have plb : ∀ j, j < sz (L : Int) - 32 → pl j < 256 := fun j hj => by rw [← hpl]; exact peP_lt (hb _ (by omega))
  unfold inOk at hok
  rw [Bool.and_eq_true] at hok
  have hn := of_decide_eq_true hok.1
  have hzz := (zeroF_iff _ _ _).1 hok.2
  have p0 := plb 0 (by omega)
  have p1 := plb 1 (by omega)
  have pb : ∀ j, j < sz (L : Int) - 32 → pbF (inN pl) (fun i => pl (2 + i)) j = pl j := fun j hj => by
    unfold pbF cellF hd2
    by_cases h2 : j < 2
    · rw [if_pos h2]
      unfold inN
      by_cases h0 : j = 0
      · subst h0; rw [if_pos rfl]; omega
      · obtain rfl : j = 1 := by omega
        rw [if_neg (by omega)]; omega
    · rw [if_neg h2]
      by_cases h3 : j < 2 + inN pl
      · rw [if_pos h3]; show pl (2 + (j - 2)) = pl j; congr 1; omega
      · rw [if_neg h3]; exact (hzz j (by omega) hj).symm
  have bx : ∀ j, j < sz (L : Int) - 32 → bxF (dk key c) (pbF (inN pl) fun i => pl (2 + i)) j = c (32 + j) := fun j hj => by
    have e : bxF (dk key c) (pbF (inN pl) fun i => pl (2 + i)) j = bxF (dk key c) pl j := by
      unfold bxF maskF
      rw [pb j hj]
    rw [e, ← hpl]
    unfold peP bxF maskF
    rw [Nat.xor_assoc, Nat.xor_self, Nat.xor_zero]
  intro j hj
  by_cases hS : j < sz (L : Int)
  · rw [cw_in j hS]
    by_cases h16 : j < 16
    · exact wr_nonce j h16
    · by_cases h32 : j < 32
      · have e := wr_tag (key := key) (nonce := c) (L := L) (n := inN pl) (inner := fun i => pl (2 + i)) (j - 16) (by omega)
        rw [show 16 + (j - 16) = j by omega] at e
        rw [e]
        unfold peT at ht
        rw [eqB_iff] at ht
        have := ht (j - 16) (by omega)
        rw [show 16 + (j - 16) = j by omega, show (L : Int).toNat = L from by simp] at this
        rw [this]
        exact congrFun (tgF_congr (fun _ _ => rfl) bx) _
      · have e := wr_box (key := key) (nonce := c) (L := L) (n := inN pl) (inner := fun i => pl (2 + i)) (j - 32)
        rw [show 32 + (j - 32) = j by omega] at e
        rw [e, bx _ (by omega)]
        congr 1
        omega
  · rw [cw_out j (by omega), hz j (by omega) hj]
theorem pC_arr {W : World} {g : Nat} {cv : Value} {r : Nat → Nat} {t : TypeId} (h : W.heap[g]? = some (.cells (pC cv r) t)) : ∀ j, j < 16 → W.cell? ⟨g, 1 + j, none⟩ = some (.int .u8 (r j)) := by
  intro j hj
  rw [cell_of_row _ _ _ _ _ _ h, pC, List.getElem?_toArray, Nat.add_comm, List.getElem?_cons_succ]
  exact bytesL_at 16 r hj
/-- What the region that opens the box yields. -/
def oxT (K : Nat) (D pl : Nat → Nat) (vc vb : Value) (S N : Nat) (W0 : World) (l : Nat → Bool) (x : Nat → Value) (W : World) : Prop :=
  (l 0 = true → x 0 = .pointer (some ⟨K, 0, none⟩)) ∧ (l 1 = true → x 1 = .agg (bA 16 fun j => D (0 + j))) ∧ (l 2 = true → x 2 = .agg (bA 16 fun _ => 0)) ∧ (l 3 = true → x 3 = vc) ∧ (l 4 = true → x 4 = .int .i64 (S : Int)) ∧ (l 5 = true → x 5 = vb) ∧ (l 6 = true → W.ownsRow W0.heap.size 5 1 (x 6) N (bytesL N pl)) ∧ (l 7 = true → x 7 = x 6) ∧ Below W0.heap.size W0 W
def onV (v : Value) (b off p0 p1 n0 : Nat) (j : Nat) : Value :=
  match j with
  | 0 => v | 1 => .pointer (some ⟨b, off + 0, none⟩) | 2 => .int .u8 p0 | 3 => .int .i64 p0 | 4 => .int .i64 ((256 * p0 : Nat) : Int) | 5 => v | 6 => .pointer (some ⟨b, off + 1, none⟩) | 7 => .int .u8 p1 | 8 => .int .i64 p1 | _ => .int .i64 n0
theorem execMul256 {o : Oper} {a : Act} {w : World} {y : Operand} {p : Nat} (ho : o.op = .binOp .mul 3 (.const (.int .i64 256)) y 3) (hy : a.eval y = .int .i64 (p : Int)) (hp : p < 256) : (execOp a.eval o).run Tryd.prog w = .ok (.value (.int .i64 ((256 * p : Nat) : Int))) w := by
  have e : IntKind.i64.wrap (256 * (p : Int)) = 256 * (p : Int) := by simp [IntKind.wrap, IntKind.bits, IntKind.signed]; omega
  unfold execOp
  simp only [ho, hy]
  simp [go_sem, e]
theorem execAddI {o : Oper} {a : Act} {w : World} {x y : Operand} {p q : Nat} (ho : o.op = .binOp .add 3 x y 3) (hx : a.eval x = .int .i64 (p : Int)) (hy : a.eval y = .int .i64 (q : Int)) (hp : p < 100000) (hq : q < 100000) : (execOp a.eval o).run Tryd.prog w = .ok (.value (.int .i64 ((p + q : Nat) : Int))) w := by
  have e : IntKind.i64.wrap ((p : Int) + (q : Int)) = (p : Int) + (q : Int) := by simp [IntKind.wrap, IntKind.bits, IntKind.signed]; omega
  unfold execOp
  simp only [ho, hx, hy]
  simp [go_sem, e]
end Go.Proofs.YtfhldpdnoaoohaaDoor.Oni
