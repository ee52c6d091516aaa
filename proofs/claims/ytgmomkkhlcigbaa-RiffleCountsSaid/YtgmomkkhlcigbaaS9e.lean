import Derived.Test.YtgmomkkhlcigbaaS9b
namespace Go.Proofs.Ytgmomkkhlcigbaa.Rif
/- What the packages below answer on a tape's way to its order, and what the order and the turn answer (stage 13): names nothing of a program. -/
open Go.Proofs.Ytgmomkkhlcigbaa.Prm
open Go.Proofs.Ytgmomkkhlcigbaa.Brd
open Go.Proofs.Ytgmomkkhlcigbaa.Drw
theorem szF_pre (N D : Nat) : ∀ k, sumN (szF N D) k = k * (N / D) + min k (N % D)
 | 0 => by rw [Nat.zero_mul, Nat.zero_min]; rfl
 | k + 1 => by
  show sumN (szF N D) k + (N / D + if k < N % D then 1 else 0) = _
  rw [szF_pre N D k, Nat.add_mul, Nat.one_mul]
  by_cases h : k < N % D
  ·rw [if_pos h]; omega
  ·rw [if_neg h]; omega
theorem szF_sum (N : Nat) {D : Nat} (h : 0 < D) : sumN (szF N D) D = N := by
 rw [szF_pre]
 have h1 := Nat.div_add_mod N D
 have h2 := Nat.mod_lt N h
 omega
theorem szF_le (N : Nat) {D t : Nat} (h : t < D) : szF N D t ≤ N := by
 have h1 := sumN_at (r := szF N D) h
 rw [szF_sum N (by omega)] at h1
 omega
def sI (N D : Nat) (j : Nat) : Int := (szF N D j : Int)
theorem sI_g (N D : Nat) : gN (sI N D) = szF N D := rfl
theorem sI_ok {N D : Nat} (hN : N ≤ 256) (hD : 0 < D) : okS (sI N D) D = true := okS_iff.2 fun j hj => by
 have h1 := sumN_at (r := szF N D) hj
 rw [szF_sum N hD] at h1
 rw [sI_g]
 show 0 ≤ ((szF N D j : Nat) : Int) ∧ ((szF N D j : Nat) : Int) ≤ _
 omega
theorem sI_szQ {N D : Nat} (hN : N ≤ 256) (h1 : 1 ≤ D) (h2 : D ≤ 64) : szQ (sI N D) D = true := szQ_iff.2 ⟨⟨h1, h2⟩, sI_ok hN h1⟩
theorem anyB_of {bs : Nat → Int} : ∀ {n}, (∀ i, i < n → ¬ bad (bs i)) → anyB bs n = false
 | 0, _ => rfl
 | n + 1, h => by
  show (anyB bs n || decide (bad (bs n))) = false
  rw [anyB_of fun i hi => h i (by omega), decide_eq_false (h n (by omega))]
  rfl
theorem bI_any {n m : Nat} (hn : n ≤ 256) (hm : m ≤ n) : anyB (bI n) m = false := anyB_of fun i hi => by
 show ¬ ((n : Int) - (i : Int) < 1 ∨ 256 < (n : Int) - (i : Int))
 omega
theorem allE_bI {p : Nat → Nat} {l n m : Nat} (hn : n ≤ 256) (hm : m ≤ n) : allE p l (bI n) m = if okB p l (bI n) m then 0 else 3 := by
 unfold allE
 rw [bI_any hn hm]
 rfl
theorem trE_bI {p : Nat → Nat} {l n m : Nat} {ws : Nat → Int} (hn : n ≤ 256) (hm : m ≤ n) (ho : okA p l (bI n) m) (hw : wOk (bI n) ws m) : trE p l (bI n) m ws m = 0 := by
 unfold trE
 rw [if_neg (by rw [bI_any hn hm, anyW_no.2 hw]; simp), if_pos (okB_iff.2 ho)]
theorem dA_fa {p : Nat → Nat} {l n : Nat} (h : okA p l (bI n) n) : faQ (fun i => (dA p l (bI n) i : Int)) n = true := faQ_iff.2 fun i hi => by
 have : (dA p l (bI n) i : Int) < (n : Int) - (i : Int) := dA_lt' h hi
 show 0 ≤ ((dA p l (bI n) i : Nat) : Int) ∧ ((dA p l (bI n) i : Nat) : Int) < _
 omega
theorem fitQ_of {d : Nat → Int} {N : Nat} : ∀ {k}, (∀ i, i < k → 0 ≤ d i ∧ d i < (N : Int) - i) → fitQ d N k = true
 | 0, _ => rfl
 | k + 1, h => by
  show (fitQ d N k && decide (0 ≤ d k ∧ d k < (N : Int) - k)) = true
  rw [fitQ_of fun i hi => h i (by omega), decide_eq_true (h k (by omega))]
  rfl
theorem dA_from {p : Nat → Nat} {l m : Nat} (h : okA p l (bI m) (m - 1)) : frE (m : Int) (fun i => (dA p l (bI m) i : Int)) (m - 1) = 0 := frE_ok rfl (fitQ_of fun i hi => by
 have : (dA p l (bI m) i : Int) < (m : Int) - (i : Int) := dA_lt' h hi
 show 0 ≤ ((dA p l (bI m) i : Nat) : Int) ∧ ((dA p l (bI m) i : Nat) : Int) < _
 omega)
def okT (L J n : Nat) (s p : Nat → Nat) : Bool := okB (brP p) (lb L) (bI n) n && allB (fun t => okB (ckP L J p t) (lq L J) (bI (s t)) (s t - 1)) J
theorem okT_iff {L J n : Nat} {s p : Nat → Nat} : okT L J n s p = true ↔ OkT L J n s p := by
 unfold okT
 rw [Bool.and_eq_true, allB_iff, okB_iff]
 exact ⟨fun ⟨a, b⟩ => ⟨a, fun t ht => okB_iff.1 (b t ht)⟩, fun h => ⟨h.br, fun t ht => okB_iff.2 (h.ck t ht)⟩⟩
section
variable {L J n : Nat} {p q w : Nat → Nat}
def wCI (J n : Nat) (w : Nat → Nat) (i : Nat) : Int := (wC (szF n J) J w i : Int)
def wOI (J n : Nat) (w : Nat → Nat) (t k : Nat) : Int := (wO (szF n J) J n w t k : Int)
theorem wOI_ok (h1 : 1 ≤ J) (hw : IsP w n) {t : Nat} (ht : t < J) : pE (wOI J n w t) (szF n J t) = 0 := if_pos (ok_of (wO_isP (szF_sum n h1) hw ht))
theorem lq_le (L : Nat) {J : Nat} (hL : 18 ≤ L) : 18 + lb L + J * lq L J ≤ L := by
 have := Nat.mul_div_le (L - 18 - (L - 18) / 2) J
 unfold lb lq
 omega
theorem ck_in (hL : 18 ≤ L) {t j : Nat} (ht : t < J) (hj : j < lq L J) : 18 + lb L + t * lq L J + j < L := by
 have h1 : (t + 1) * lq L J ≤ J * lq L J := Nat.mul_le_mul_right _ ht
 rw [Nat.add_mul, Nat.one_mul] at h1
 have := lq_le L (J := J) hL
 omega
theorem br_in (hL : 18 ≤ L) {j : Nat} (hj : j < lb L) : 18 + j < L := by
 unfold lb at hj
 omega
end
section
variable {L J n : Nat} {s p q w v : Nat → Nat}
theorem br_eq (hL : 18 ≤ L) (h : ∀ x, 18 ≤ x → x < L → p x = q x) : ∀ j, j < lb L → brP p j = brP q j := fun j hj => h _ (by omega) (br_in hL hj)
theorem ck_eq (hL : 18 ≤ L) (h : ∀ x, 18 ≤ x → x < L → p x = q x) {t : Nat} (ht : t < J) : ∀ j, j < lq L J → ckP L J p t j = ckP L J q t j := fun j hj => h _ (by omega) (ck_in hL ht hj)
theorem OkT.eq (hL : 18 ≤ L) (h : ∀ x, 18 ≤ x → x < L → p x = q x) (o : OkT L J n s p) : OkT L J n s q := ⟨okA_eq (br_eq hL h) o.br, fun t ht => okA_eq (ck_eq hL h ht) (o.ck t ht)⟩
theorem tuT_byte (hL : 18 ≤ L) (hn : sumN s J = n) (o : OkT L J n s p) (hw : IsP w n) (hp : ∀ x, x < L → p x < 256) {x : Nat} (hx : x < L) : tuT L J n s p w x < 256 := by
 unfold tuT
 by_cases c1 : x < 18
 ·rw [if_pos c1]; exact hp x hx
 rw [if_neg c1]
 by_cases c2 : x < 18 + lb L
 ·rw [if_pos c2]
  exact turn_byte o.br (bW_ok hn o hw) (fun j hj => hp _ (br_in hL hj)) (by omega)
 rw [if_neg c2]
 by_cases c3 : x < 18 + lb L + J * lq L J
 ·rw [if_pos c3]
  have hq : 0 < lq L J := by
   by_cases z : lq L J = 0
   ·rw [z] at c3; omega
   ·omega
  have ht : (x - 18 - lb L) / lq L J < J := Nat.div_lt_of_lt_mul (by rw [Nat.mul_comm]; omega)
  exact turn_byte (o.ck _ ht) (kW_ok _) (fun j hj => hp _ (ck_in hL ht hj)) (Nat.mod_lt _ hq)
 ·rw [if_neg c3]; exact hp x hx
end
end Go.Proofs.Ytgmomkkhlcigbaa.Rif

namespace Go.Proofs.Ytgmomkkhlcigbaa.Rif
/- What Order and Turn answer, for any arguments; the turn is one to one (stage 13): names nothing of a program. -/
open Go.Proofs.Ytgmomkkhlcigbaa.Prm
open Go.Proofs.Ytgmomkkhlcigbaa.Brd
open Go.Proofs.Ytgmomkkhlcigbaa.Drw
abbrev inL (n ch : Int) : Prop := 0 ≤ n ∧ n ≤ 256 ∧ 1 ≤ ch ∧ ch ≤ 64
def riE (L : Nat) (n ch : Int) (p : Nat → Nat) : Nat := if inL n ch then (if 18 ≤ L ∧ okT L ch.toNat n.toNat (szF n.toNat ch.toNat) p = true then 0 else 3) else 2
def orF (L : Nat) (n ch : Int) (p : Nat → Nat) (i : Nat) : Int := (orT L ch.toNat n.toNat (szF n.toNat ch.toNat) p i : Int)
def tnE (L : Nat) (n ch : Int) (wf : Nat → Int) (m : Nat) (p : Nat → Nat) : Nat := if inL n ch ∧ (m : Int) = n then (if pE wf m = 0 then riE L n ch p else 110) else 2
def tnF (L : Nat) (n ch : Int) (wf : Nat → Int) (p : Nat → Nat) (x : Nat) : Nat := tuT L ch.toNat n.toNat (szF n.toNat ch.toNat) p (gN wf) x
structure Fit (L N J : Nat) (n ch : Int) (p : Nat → Nat) : Prop where
 n : n = (N : Int)
 c : ch = (J : Int)
 le : N ≤ 256
 one : 1 ≤ J
 most : J ≤ 64
 len : 18 ≤ L
 ok : OkT L J N (szF N J) p
theorem pE_zero {f : Nat → Int} {n : Nat} : pE f n = 0 ↔ okQ f n n = true := by
 unfold pE
 by_cases h : okQ f n n = true
 ·rw [if_pos h]; exact ⟨fun _ => h, fun _ => rfl⟩
 ·rw [if_neg h]; exact ⟨fun q => absurd q (by decide), fun q => absurd q h⟩
section
variable {L N J m : Nat} {n ch : Int} {p q : Nat → Nat} {wf tf : Nat → Int}
theorem ri_ok (h : riE L n ch p = 0) : Fit L n.toNat ch.toNat n ch p := by
 unfold riE at h
 by_cases h1 : inL n ch
 ·rw [if_pos h1] at h
  by_cases h2 : 18 ≤ L ∧ okT L ch.toNat n.toNat (szF n.toNat ch.toNat) p = true
  ·obtain ⟨a, b, c, d⟩ := h1
   exact ⟨by omega, by omega, by omega, by omega, by omega, h2.1, okT_iff.1 h2.2⟩
  ·rw [if_neg h2] at h; exact absurd h (by decide)
 ·rw [if_neg h1] at h; exact absurd h (by decide)
theorem Fit.ri (h : Fit L N J n ch p) : riE L n ch p = 0 := by
 obtain ⟨rfl, rfl, h1, h2, h3, h4, h5⟩ := h
 unfold riE
 rw [if_pos ⟨by omega, by omega, by omega, by omega⟩, if_pos ⟨h4, okT_iff.2 h5⟩]
theorem Fit.sum (h : Fit L N J n ch p) : sumN (szF N J) J = N := szF_sum N h.one
theorem tn_ok (h : tnE L n ch wf m p = 0) : Fit L m ch.toNat n ch p ∧ IsP (gN wf) m ∧ ∀ i, i < m → wf i = (gN wf i : Int) := by
 unfold tnE at h
 by_cases h1 : inL n ch ∧ (m : Int) = n
 ·rw [if_pos h1] at h
  by_cases h2 : pE wf m = 0
  ·rw [if_pos h2] at h
   have f := ri_ok h
   have e : n.toNat = m := by omega
   rw [e] at f
   refine ⟨f, isP_of (pE_zero.1 h2), fun i hi => ?_⟩
   have := (okQ_iff.1 (pE_zero.1 h2)).1 i hi
   show wf i = (((wf i).toNat : Nat) : Int)
   omega
  ·rw [if_neg h2] at h; exact absurd h (by decide)
 ·rw [if_neg h1] at h; exact absurd h (by decide)
theorem Fit.or_pE (h : Fit L N J n ch p) : pE (orF L n ch p) N = 0 := by
 have e := orT_isP h.sum h.ok
 obtain ⟨rfl, rfl, h1, h2, h3, h4, h5⟩ := h
 exact pE_zero.2 (ok_of e)
theorem Fit.or_lt (h : Fit L N J n ch p) {i : Nat} (hi : i < N) : 0 ≤ orF L n ch p i ∧ orF L n ch p i < (N : Int) := (okQ_iff.1 (pE_zero.1 h.or_pE)).1 i hi
theorem Fit.tu_back (h : Fit L N J n ch p) (hw : IsP (gN wf) N) (x : Nat) : tnF L n ch (orF L n ch p) (tnF L n ch wf p) x = p x := by
 have e := Rif.tu_back h.sum h.ok hw x
 obtain ⟨rfl, rfl, h1, h2, h3, h4, h5⟩ := h
 exact e
theorem Fit.tu_tu (h : Fit L N J n ch p) (ht : IsP (gN tf) N) (hw : IsP (gN wf) N) (x : Nat) : tnF L n ch wf (tnF L n ch tf p) x = tnF L n ch wf p x := by
 have e := Rif.tu_tu h.sum h.ok ht hw x
 obtain ⟨rfl, rfl, h1, h2, h3, h4, h5⟩ := h
 exact e
theorem Fit.tu_byte (h : Fit L N J n ch p) (hw : IsP (gN wf) N) (hp : ∀ x, x < L → p x < 256) {x : Nat} (hx : x < L) : tnF L n ch wf p x < 256 := by
 have e := tuT_byte h.len h.sum h.ok hw hp hx
 obtain ⟨rfl, rfl, h1, h2, h3, h4, h5⟩ := h
 exact e
theorem tn_byte (hp : ∀ x, x < L → p x < 256) {x : Nat} (hx : x < zl (tnE L n ch wf m p) L) : tnF L n ch wf p x < 256 := by
 by_cases h : tnE L n ch wf m p = 0
 ·rw [h] at hx
  obtain ⟨f, hw, _⟩ := tn_ok h
  exact f.tu_byte hw hp hx
 ·rw [zl_no h] at hx; exact absurd hx (Nat.not_lt_zero _)
end
end Go.Proofs.Ytgmomkkhlcigbaa.Rif

namespace Go.Proofs.Ytgmomkkhlcigbaa.Rif
/- Orders of fixed tapes: the laws' fixed facts, tapes of noughts, tapes of two bytes (stage 13): names nothing of a program. -/
open Go.Proofs.Ytgmomkkhlcigbaa.Prm
open Go.Proofs.Ytgmomkkhlcigbaa.Brd
open Go.Proofs.Ytgmomkkhlcigbaa.Drw
def cntd (x : Nat) : Nat := if x < 18 then 0 else x - 17
set_option maxRecDepth 100000 in
theorem cntd_1 : riE 42 3 1 cntd = 0 ∧ orF 42 3 1 cntd 0 = 2 ∧ orF 42 3 1 cntd 1 = 0 ∧ orF 42 3 1 cntd 2 = 1 := by decide
set_option maxRecDepth 100000 in
theorem cntd_2 : riE 42 4 2 cntd = 0 ∧ orF 42 4 2 cntd 0 = 0 ∧ orF 42 4 2 cntd 1 = 2 ∧ orF 42 4 2 cntd 2 = 3 ∧ orF 42 4 2 cntd 3 = 1 := by decide
set_option maxRecDepth 100000 in
theorem cntd_3 : tnE 42 2 1 (fun j => if j = 0 then 1 else 0) 2 cntd = 0 := by decide
theorem two_1 {p : Nat → Nat} (h1 : p 18 < 256) (h2 : p 19 < 256) : riE 20 2 1 p = 0 ∧ orF 20 2 1 p 0 = if p 19 % 2 = 1 then 0 else 1 := by
 have a1 : p 18 / 2 < 128 := by omega
 have a2 : p 19 / 2 < 128 := by omega
 constructor
 ·simp [riE, inL, okT, okB, allB, dE, dS, scan, plA, bI, brP, ckP, lb, lq, szF, a1, a2]
 ·rcases Nat.mod_two_eq_zero_or_one (p 19) with e | e <;> rcases Nat.mod_two_eq_zero_or_one (p 18) with f | f <;>
   simp [orF, orT, orC, ptT, owT, chD, pj, lfD, sumN, cntC, frA, swp, dB, dK, dA, dV, dE, dS, scan, plA, bI, brP, ckP, lb, lq, szF, a1, a2, e, f]
theorem two_2 {p : Nat → Nat} (h1 : p 18 < 256) : riE 20 2 2 p = 0 ∧ orF 20 2 2 p 0 = if p 18 % 2 = 0 then 0 else 1 := by
 have a1 : p 18 / 2 < 128 := by omega
 constructor
 ·simp [riE, inL, okT, okB, allB, dE, dS, scan, plA, bI, brP, lb, lq, szF, a1]
 ·rcases Nat.mod_two_eq_zero_or_one (p 18) with f | f <;>
   simp [orF, orT, orC, ptT, owT, chD, pj, lfD, sumN, cntC, frA, dB, dA, dV, dE, dS, scan, plA, bI, brP, lb, szF, a1, f]
end Go.Proofs.Ytgmomkkhlcigbaa.Rif
