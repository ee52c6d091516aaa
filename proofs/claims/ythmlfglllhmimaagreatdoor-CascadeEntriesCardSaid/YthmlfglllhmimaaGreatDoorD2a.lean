import Derived.Test.YthmlfglllhmimaaGreatDoorD8
namespace Go.Proofs.YthmlfglllhmimaaGreatDoor.Frm
open Go.RowKit Gf8 Aes By8
/- The places of the fields, over Nat. -/

/-- How many bytes a field has. -/
def fsz : Nat → Nat
  | 0 => 4 | 1 => 1 | 2 => 1 | 3 => 2 | 4 => 8 | 5 => 8 | 6 => 2 | 7 => 320 | 8 => 4 | _ => 1
theorem fsz_pos (f : Nat) : 1 ≤ fsz f := by unfold fsz; split <;> omega
theorem fsz_le (f : Nat) : fsz f ≤ 320 := by unfold fsz; split <;> omega
/-- The number in k bytes, the highest first. -/
def nb (p : Nat → Nat) : Nat → Nat
  | 0 => 0
  | k + 1 => nb p k * 256 + p k
theorem nb_congr {p q : Nat → Nat} : ∀ {k : Nat}, (∀ j, j < k → p j = q j) → nb p k = nb q k
  | 0, _ => rfl
  | k + 1, h => by rw [nb, nb, nb_congr (k := k) fun j hj => h j (by omega), h k (by omega)]
theorem nb_lt {p : Nat → Nat} : ∀ {k : Nat}, (∀ j, j < k → p j < 256) → nb p k < 256 ^ k
  | 0, _ => by rw [nb]; decide
  | k + 1, h => by
    have := nb_lt (k := k) fun j hj => h j (by omega)
    have := h k (by omega)
    rw [nb, Nat.pow_succ]
    omega
/-- The reference's reading tells that number, or -1 from 2^63 on. -/
theorem rd_nb (p : Nat → Nat) (a : Nat) : ∀ k, k ≤ 8 → (∀ j, j < k → p (a + j) < 256) → rdN p a k = if nb (fun j => p (a + j)) k < 9223372036854775808 then (nb (fun j => p (a + j)) k : Int) else -1
  | 0, _, _ => by rw [rdN, nb]; rfl
  | k + 1, hk, hb => by
    have ih := rd_nb p a k (by omega) fun j hj => hb j (by omega)
    have h0 := nb_lt (p := fun j => p (a + j)) (k := k) fun j hj => hb j (by omega)
    have h1 : 256 ^ k ≤ 256 ^ 7 := Nat.pow_le_pow_right (by decide) (by omega)
    have h2 := hb k (by omega)
    have e7 : (256 : Nat) ^ 7 = 72057594037927936 := by decide
    rw [e7] at h1
    rw [if_pos (by omega)] at ih
    rw [rdN, ih, nb]
    by_cases h : nb (fun j => p (a + j)) k < 36028797018963968
    · rw [if_neg (by omega), if_pos (by omega)]
      omega
    · rw [if_pos (by omega), if_neg (by omega)]
/-- Is a number of k bytes wrong? -/
def low : Nat → Nat
  | 0 => 1128813134 | 1 => 1 | 6 => 320 | 9 => 1 | _ => 0
def high : Nat → Nat
  | 0 => 1128813134 | 1 => 1 | 2 => 8 | 3 => 256 | 4 => 4611686018427387903 | 5 => 4611686018427387904 | 6 => 320 | _ => 0
def flt : Nat → Nat
  | 0 => 60 | 1 => 61 | 2 => 62 | 3 => 63 | 4 => 62 | 5 => 62 | 6 => 64 | 7 => 0 | 8 => 65 | _ => 66
/-- The field's number. -/
def fnum (p : Nat → Nat) (f at' : Nat) : Nat := nb (fun j => p (at' + j)) (fsz f)
/-- The field's fault. -/
def bad (p : Nat → Nat) (f at' : Nat) : Nat :=
  if f = 7 then 0
  else if f = 8 then (if fnum p f at' = (adl p at').2 * 65536 + (adl p at').1 then 0 else 65)
  else if fnum p f at' < low f ∨ high f < fnum p f at' then flt f else 0
theorem nb4 (p : Nat → Nat) : nb p 4 = ((p 0 * 256 + p 1) * 256 + p 2) * 256 + p 3 := by simp only [nb]; omega
/-- The six fields of the header. -/
theorem bad_head {p : Nat → Nat} {f : Nat} (hf : f < 6) (hb : ∀ j, j < fsz f → p (startN f + j) < 256) : bad p f (startN f) = wrongN p f := by
  match f, hf, hb with
  | 0, _, hb =>
    have h0 := hb 0 (by decide)
    have h1 := hb 1 (by decide)
    have h2 := hb 2 (by decide)
    have h3 := hb 3 (by decide)
    simp only [startN, Nat.zero_add] at h0 h1 h2 h3
    unfold bad wrongN fnum
    rw [if_neg (by omega), if_neg (by omega)]
    show (if nb (fun j => p (0 + j)) 4 < 1128813134 ∨ 1128813134 < nb (fun j => p (0 + j)) 4 then 60 else 0) = _
    rw [nb4]
    simp only [Nat.zero_add]
    by_cases e : p 0 = 67 ∧ p 1 = 72 ∧ p 2 = 82 ∧ p 3 = 78
    · obtain ⟨a, b, c, d⟩ := e
      rw [if_neg (by rw [a, b, c, d]; omega), if_pos ⟨a, b, c, d⟩]
    · rw [if_pos (by omega), if_neg e]
  | 1, _, hb =>
    unfold bad fnum
    rw [if_neg (by omega), if_neg (by omega), show wrongN p 1 = if p 4 = 1 then 0 else 61 from rfl]
    show (if (0 * 256 + p (4 + 0)) < 1 ∨ 1 < (0 * 256 + p (4 + 0)) then 61 else 0) = _
    rw [Nat.add_zero]
    by_cases e : p 4 = 1
    · rw [if_neg (by omega), if_pos e]
    · rw [if_pos (by omega), if_neg e]
  | 2, _, hb =>
    unfold bad fnum
    rw [if_neg (by omega), if_neg (by omega), show wrongN p 2 = if p 5 ≤ 8 then 0 else 62 from rfl]
    show (if (0 * 256 + p (5 + 0)) < 0 ∨ 8 < (0 * 256 + p (5 + 0)) then 62 else 0) = _
    rw [Nat.add_zero]
    by_cases e : p 5 ≤ 8
    · rw [if_neg (by omega), if_pos e]
    · rw [if_pos (by omega), if_neg e]
  | 3, _, hb =>
    have lt := nb_lt (p := fun j => p (6 + j)) (k := 2) fun j hj => hb j hj
    have e := rd_nb p 6 2 (by omega) hb
    have e2 : (256 : Nat) ^ 2 = 65536 := by decide
    rw [e2] at lt
    rw [if_pos (by omega)] at e
    unfold bad fnum
    rw [if_neg (by omega), if_neg (by omega), show wrongN p 3 = if rdN p 6 2 ≤ 256 then 0 else 63 from rfl, e]
    show (if nb (fun j => p (6 + j)) 2 < 0 ∨ 256 < nb (fun j => p (6 + j)) 2 then 63 else 0) = _
    by_cases e : nb (fun j => p (6 + j)) 2 ≤ 256
    · rw [if_neg (by omega), if_pos (by omega)]
    · rw [if_pos (by omega), if_neg (by omega)]
  | 4, _, hb =>
    have e := rd_nb p 8 8 (by omega) hb
    unfold bad fnum
    rw [if_neg (by omega), if_neg (by omega), show wrongN p 4 = e60 (rdN p 8 8) from rfl, e]
    unfold e60
    show (if nb (fun j => p (8 + j)) 8 < 0 ∨ 4611686018427387903 < nb (fun j => p (8 + j)) 8 then 62 else 0) = _
    by_cases e : nb (fun j => p (8 + j)) 8 < 9223372036854775808
    · rw [if_pos e]
      by_cases e : nb (fun j => p (8 + j)) 8 ≤ 4611686018427387903
      · rw [if_neg (by omega), if_neg (by omega)]
      · rw [if_pos (by omega), if_pos (by omega)]
    · rw [if_neg e, if_pos (by omega), if_pos (by omega)]
  | 5, _, hb =>
    have e := rd_nb p 16 8 (by omega) hb
    unfold bad fnum
    rw [if_neg (by omega), if_neg (by omega), show wrongN p 5 = e61 (rdN p 16 8) from rfl, e]
    unfold e61
    show (if nb (fun j => p (16 + j)) 8 < 0 ∨ 4611686018427387904 < nb (fun j => p (16 + j)) 8 then 62 else 0) = _
    by_cases e : nb (fun j => p (16 + j)) 8 < 9223372036854775808
    · rw [if_pos e]
      by_cases e : nb (fun j => p (16 + j)) 8 ≤ 4611686018427387904
      · rw [if_neg (by omega), if_neg (by omega)]
      · rw [if_pos (by omega), if_pos (by omega)]
    · rw [if_neg e, if_pos (by omega), if_pos (by omega)]
/-- A cell's length. -/
theorem bad_len {p : Nat → Nat} {k : Nat} (hb : ∀ j, j < 2 → p (cellAt k + j) < 256) : bad p 6 (cellAt k) = if cellLen p k = 320 then 0 else 64 := by
  have lt := nb_lt (p := fun j => p (cellAt k + j)) (k := 2) fun j hj => hb j hj
  have e := rd_nb p (cellAt k) 2 (by omega) hb
  have e2 : (256 : Nat) ^ 2 = 65536 := by decide
  rw [e2] at lt
  rw [if_pos (by omega)] at e
  unfold bad fnum cellLen
  rw [if_neg (by omega), if_neg (by omega), e]
  show (if nb (fun j => p (cellAt k + j)) 2 < 320 ∨ 320 < nb (fun j => p (cellAt k + j)) 2 then 64 else 0) = _
  by_cases e : nb (fun j => p (cellAt k + j)) 2 = 320
  · rw [if_neg (by omega), if_pos (by omega)]
  · rw [if_pos (by omega), if_neg (by omega)]
theorem num_nb (p : Nat → Nat) : ∀ k, (∀ j, j < k → p j < 256) → ∀ j, j < k → numF (nb p k) k j = p j
  | 0, _, j, h => by omega
  | k + 1, hb, j, h => by
    have h0 := hb k (by omega)
    unfold numF
    by_cases e : j = k
    · rw [e, show k + 1 - 1 - k = 0 by omega, Nat.pow_zero, Nat.div_one, nb]
      omega
    · have ih := num_nb p k (fun j hj => hb j (by omega)) j (by omega)
      unfold numF at ih
      rw [show k + 1 - 1 - j = (k - 1 - j) + 1 by omega, Nat.pow_succ, Nat.mul_comm, ← Nat.div_div_eq_div_mul, nb, show (nb p k * 256 + p k) / 256 = nb p k by omega]
      exact ih
/-- The foot. -/
theorem bad_foot {p : Nat → Nat} {t : Nat} (hb : ∀ j, j < 4 → p (t + j) < 256) : ((∀ j, j < 4 → p (t + j) = footF p t j) → bad p 8 t = 0) ∧ ((¬ ∀ j, j < 4 → p (t + j) = footF p t j) → bad p 8 t = 65) := by
  have lt := nb_lt (p := fun j => p (t + j)) (k := 4) fun j hj => hb j hj
  have e2 : (256 : Nat) ^ 4 = 4294967296 := by decide
  rw [e2] at lt
  obtain ⟨la, lb⟩ := adl_lt p t
  have nn := num_nb (fun j => p (t + j)) 4 hb
  have u : bad p 8 t = if nb (fun j => p (t + j)) 4 = (adl p t).2 * 65536 + (adl p t).1 then 0 else 65 := rfl
  rw [u]
  constructor
  · intro h
    refine if_pos (numF4_inj lt (by omega) fun j hj => ?_)
    rw [nn j hj]
    exact h j hj
  · intro h
    refine if_neg fun e => h fun j hj => ?_
    unfold footF
    rw [← e]
    exact (nn j hj).symm
/-- The places: field f stands at at', behind k whole cells. -/
structure Pos (p : Nat → Nat) (f at' k : Nat) : Prop where
  lt : f ≤ 9
  head : ∀ g, g < f → g < 6 → wrongN p g = 0
  cells : ∀ i, i < k → cellLen p i = 320
  le : k ≤ nCells p
  zero : f < 6 → k = 0
  place : at' = if f < 6 then startN f else if f = 6 then cellAt k else if f = 7 then cellAt k + 2 else if f = 8 then cellAt k else cellAt k + 4
  more : 6 ≤ f → f ≤ 7 → k < nCells p
  len : f = 7 → cellLen p k = 320
  all : 8 ≤ f → k = nCells p
  foot : f = 9 → ∀ j, j < 4 → p (cellAt k + j) = footF p (cellAt k) j
theorem Pos.begin (p : Nat → Nat) : Pos p 0 0 0 :=
  ⟨by omega, fun g h => by omega, fun i h => by omega, Nat.zero_le _, fun _ => rfl, rfl, fun h => by omega, fun h => by omega, fun h => by omega, fun h => by omega⟩
theorem startN_step {f : Nat} (h : f < 6) : startN (f + 1) = startN f + fsz f := by
  match f, h with
  | 0, _ => rfl
  | 1, _ => rfl
  | 2, _ => rfl
  | 3, _ => rfl
  | 4, _ => rfl
  | 5, _ => rfl
theorem startN_mono {f g : Nat} (h : f ≤ g) (hg : g ≤ 6) : startN f ≤ startN g := by
  induction g with
  | zero => rw [show f = 0 by omega]; exact Nat.le_refl _
  | succ g ih =>
    by_cases e : f = g + 1
    · rw [e]; exact Nat.le_refl _
    · have := ih (by omega) (by omega)
      rw [startN_step (by omega)]
      omega
theorem Pos.low {p : Nat → Nat} {f at' k : Nat} (h : Pos p f at' k) (h6 : 6 ≤ f) : cellAt k ≤ at' := by
  have e := h.place
  rw [if_neg (by omega)] at e
  split at e
  · omega
  · split at e
    · omega
    · split at e <;> omega
theorem Pos.ok {p : Nat → Nat} {f at' k n : Nat} (h : Pos p f at' k) (h6 : 6 ≤ f) (hn : at' ≤ n) : headOk p n = true := by
  refine (headOk_iff p n).2 ⟨?_, fun g hg => h.head g (by omega) hg⟩
  have := h.low h6
  have := cellAt_ge k
  omega
theorem Pos.okC {p : Nat → Nat} {f at' k n : Nat} (h : Pos p f at' k) (h6 : 6 ≤ f) (hn : at' ≤ n) {i : Nat} (hi : i < k) : okC p n i = true := by
  unfold Frm.okC
  have := h.low h6
  have := cellAt_mono hi
  have := cellAt_succ i
  rw [decide_eq_true (by omega), decide_eq_true (h.cells i hi)]
  rfl
theorem Pos.past {p : Nat → Nat} {f at' k n : Nat} (h : Pos p f at' k) (h6 : f < 6) (hn : at' ≤ n) : ∀ g, g < f → startN (g + 1) ≤ n ∧ wrongN p g = 0 := fun g hg => ⟨by
  have e := h.place
  rw [if_pos h6] at e
  have := startN_mono (f := g + 1) (g := f) (by omega) (by omega)
  omega, h.head g hg (by omega)⟩
/-- What is told while the field isn't whole. -/
theorem Pos.short {p : Nat → Nat} {f at' k n : Nat} (h : Pos p f at' k) (h1 : at' ≤ n) (h2 : n < at' + fsz f) : jK p n = k ∧ jE p n = (if f = 9 then (0, 0) else (n, 67)) ∧ headOk p n = decide (6 ≤ f) := by
  by_cases h6 : f < 6
  · have e := h.place
    rw [if_pos h6] at e
    have hs : n < startN (f + 1) := by rw [startN_step h6]; omega
    have no := headOk_no p n f h6 (Or.inl hs)
    unfold jK jE
    rw [no, if_neg (by simp), if_neg (by simp), headE_short p n f h6 (h.past h6 h1) hs, if_neg (by omega), decide_eq_false (by omega)]
    exact ⟨(h.zero h6).symm, rfl, rfl⟩
  · have ok := h.ok (by omega) h1
    have e := h.place
    rw [if_neg h6] at e
    have stop : k < nCells p → Frm.okC p n k = false := by
      intro hk
      have h8 : f < 8 := by
        apply Classical.byContradiction
        intro q
        have := h.all (by omega)
        omega
      unfold Frm.okC
      rw [decide_eq_false]
      · rfl
      · rw [cellAt_succ]
        split at e
        · rename_i e6
          rw [e6] at h2
          simp only [fsz] at h2
          omega
        · rw [if_pos (by omega)] at e
          rw [show f = 7 by omega] at h2
          simp only [fsz] at h2
          omega
    have wk := wholeK_eq p n (nCells p) k h.le (fun i hi => h.okC (by omega) h1 hi) stop
    unfold jK jE
    rw [ok, if_pos rfl, if_pos rfl, wk, decide_eq_true (by omega)]
    refine ⟨rfl, ?_, rfl⟩
    unfold tailE
    by_cases h8 : f < 8
    · have hk := h.more (by omega) (by omega)
      rw [if_pos hk, if_neg (show ¬ f = 9 by omega), if_neg]
      intro ⟨a, b⟩
      by_cases e6 : f = 6
      · rw [if_pos e6] at e
        rw [e6] at h2
        simp only [fsz] at h2
        omega
      · exact b (h.len (by omega))
    · have hk := h.all (by omega)
      rw [if_neg (by omega), ← hk]
      rw [if_neg (by omega), if_neg (by omega)] at e
      by_cases e8 : f = 8
      · rw [if_pos e8] at e
        rw [e8] at h2
        simp only [fsz] at h2
        rw [if_pos (by omega), if_neg (by omega)]
      · rw [if_neg e8] at e
        have e9 : f = 9 := by have := h.lt; omega
        rw [e9] at h2
        simp only [fsz] at h2
        rw [if_neg (by omega), if_pos (h.foot e9), if_neg (by omega), if_pos e9]
/-- What is told where a whole field is wrong. -/
theorem Pos.fault {p : Nat → Nat} {f at' k n : Nat} (h : Pos p f at' k) (hb : ∀ j, j < n → p j < 256) (h1 : at' + fsz f ≤ n) (h2 : bad p f at' ≠ 0) : jK p n = k ∧ jE p n = (at', bad p f at') ∧ headOk p n = decide (6 ≤ f) := by
  by_cases h6 : f < 6
  · have e := h.place
    rw [if_pos h6] at e
    subst e
    have eb := bad_head (p := p) h6 fun j hj => hb _ (by omega)
    rw [eb] at h2 ⊢
    have no := headOk_no p n f h6 (Or.inr h2)
    unfold jK jE
    rw [no, if_neg (by simp), if_neg (by simp), headE_wrong p n f h6 (h.past h6 (by omega)) (by rw [startN_step h6]; exact h1) h2, decide_eq_false (by omega)]
    exact ⟨(h.zero h6).symm, rfl, rfl⟩
  · have ok := h.ok (n := n) (by omega) (by omega)
    have e := h.place
    rw [if_neg h6] at e
    have ne7 : f ≠ 7 := by
      intro e7
      apply h2
      unfold bad
      rw [if_pos e7]
    rw [if_neg ne7] at e
    by_cases e6 : f = 6
    · rw [if_pos e6] at e
      subst e6
      subst e
      have eb := bad_len (p := p) (k := k) fun j hj => hb _ (by simp only [fsz] at h1; omega)
      rw [eb] at h2 ⊢
      have hl : ¬ cellLen p k = 320 := fun q => h2 (if_pos q)
      rw [if_neg hl]
      simp only [fsz] at h1
      have stop : k < nCells p → Frm.okC p n k = false := by
        intro _
        unfold Frm.okC
        rw [decide_eq_false hl, Bool.and_false]
      have wk := wholeK_eq p n (nCells p) k h.le (fun i hi => h.okC (by omega) (by omega) hi) stop
      unfold jK jE
      rw [ok, if_pos rfl, if_pos rfl, wk]
      refine ⟨rfl, ?_, rfl⟩
      unfold tailE
      rw [if_pos (h.more (by omega) (by omega)), if_pos ⟨h1, hl⟩]
    · rw [if_neg e6] at e
      have hk := h.all (by omega)
      have wk := wholeK_eq p n (nCells p) k h.le (fun i hi => h.okC (by omega) (by omega) hi) (fun q => by omega)
      unfold jK jE
      rw [ok, if_pos rfl, if_pos rfl, wk, decide_eq_true (by omega)]
      refine ⟨rfl, ?_, rfl⟩
      unfold tailE
      rw [if_neg (by omega), ← hk]
      by_cases e8 : f = 8
      · rw [if_pos e8] at e
        subst e8
        subst e
        simp only [fsz] at h1
        have eb := bad_foot (p := p) (t := cellAt k) fun j hj => hb _ (by omega)
        have hf : ¬ ∀ j, j < 4 → p (cellAt k + j) = footF p (cellAt k) j := fun q => h2 (eb.1 q)
        rw [if_neg (by omega), if_neg hf, eb.2 hf]
      · rw [if_neg e8] at e
        have e9 : f = 9 := by have := h.lt; omega
        subst e9
        simp only [fsz] at h1
        rw [if_neg (by omega), if_pos (h.foot rfl), if_pos (by omega), e]
        congr 1
        unfold bad
        rw [if_neg (by omega), if_neg (by omega), if_pos (by show _ < 1 ∨ 0 < _; omega)]
        rfl
/-- The field behind. -/
def nextF (f left : Nat) : Nat := if f ≠ 5 ∧ f ≠ 7 then f + 1 else if 0 < left then 6 else 8
def nextK (f k : Nat) : Nat := if f = 7 then k + 1 else k
theorem Pos.step {p : Nat → Nat} {f at' k : Nat} (h : Pos p f at' k) (hb : ∀ j, j < at' + fsz f → p j < 256) (h2 : bad p f at' = 0) : Pos p (nextF f (nCells p - nextK f k)) (at' + fsz f) (nextK f k) := by
  have e := h.place
  by_cases h5 : f < 5
  · rw [if_pos (by omega)] at e
    have eb := bad_head (p := p) (f := f) (by omega) fun j hj => hb _ (by omega)
    rw [e, eb] at h2
    unfold nextF nextK
    rw [if_pos (by omega), if_neg (by omega)]
    refine ⟨by omega, fun g hg h6 => ?_, h.cells, h.le, fun _ => h.zero (by omega), ?_, fun q => by omega, fun q => by omega, fun q => by omega, fun q => by omega⟩
    · by_cases q : g = f
      · rw [q]; exact h2
      · exact h.head g (by omega) h6
    · rw [if_pos (by omega), startN_step (by omega), e]
  · by_cases e5 : f = 5
    · rw [if_pos (by omega)] at e
      have eb := bad_head (p := p) (f := f) (by omega) fun j hj => hb _ (by omega)
      rw [e, eb] at h2
      have k0 := h.zero (by omega)
      have c24 : at' + fsz f = cellAt 0 := by rw [e, e5]; rfl
      rw [c24]
      have hd : ∀ g, g < 6 → wrongN p g = 0 := fun g hg => by
        by_cases q : g = f
        · rw [q]; exact h2
        · exact h.head g (by omega) hg
      unfold nextF
      rw [if_neg (by omega), show nextK f k = 0 by unfold nextK; rw [if_neg (by omega), k0]]
      by_cases hc : 0 < nCells p - 0
      · rw [if_pos hc]
        exact ⟨by omega, fun g _ h6 => hd g h6, fun i hi => by omega, by omega, fun q => by omega, rfl, fun _ _ => by omega, fun q => by omega, fun q => by omega, fun q => by omega⟩
      · rw [if_neg hc]
        exact ⟨by omega, fun g _ h6 => hd g h6, fun i hi => by omega, by omega, fun q => by omega, rfl, fun _ _ => by omega, fun q => by omega, fun _ => by omega, fun q => by omega⟩
    · rw [if_neg (by omega)] at e
      by_cases e6 : f = 6
      · rw [if_pos e6] at e
        subst e6
        subst e
        have eb := bad_len (p := p) (k := k) fun j hj => hb _ (by simp only [fsz]; omega)
        rw [eb] at h2
        have hl : cellLen p k = 320 := Classical.byContradiction fun q => by rw [if_neg q] at h2; omega
        unfold nextF nextK
        rw [if_pos (by omega), if_neg (by omega)]
        exact ⟨by omega, fun g hg h6 => h.head g (by omega) h6, h.cells, h.le, fun q => by omega, rfl, fun _ _ => h.more (by omega) (by omega), fun _ => hl, fun q => by omega, fun q => by omega⟩
      · rw [if_neg e6] at e
        by_cases e7 : f = 7
        · rw [if_pos e7] at e
          have hm := h.more (by omega) (by omega)
          have ec : at' + fsz f = cellAt (k + 1) := by rw [e, e7, cellAt_succ]; simp only [fsz]
          rw [ec]
          have hc : ∀ i, i < k + 1 → cellLen p i = 320 := fun i hi => by
            by_cases q : i = k
            · rw [q]; exact h.len e7
            · exact h.cells i (by omega)
          unfold nextF
          rw [if_neg (by omega), show nextK f k = k + 1 from if_pos e7]
          by_cases hl : 0 < nCells p - (k + 1)
          · rw [if_pos hl]
            exact ⟨by omega, fun g hg h6 => h.head g (by omega) h6, hc, by omega, fun q => by omega, rfl, fun _ _ => by omega, fun q => by omega, fun q => by omega, fun q => by omega⟩
          · rw [if_neg hl]
            exact ⟨by omega, fun g hg h6 => h.head g (by omega) h6, hc, by omega, fun q => by omega, rfl, fun _ _ => by omega, fun q => by omega, fun _ => by omega, fun q => by omega⟩
        · rw [if_neg e7] at e
          have hk := h.all (by omega)
          by_cases e8 : f = 8
          · rw [if_pos e8] at e
            subst e8
            subst e
            have eb := bad_foot (p := p) (t := cellAt k) fun j hj => hb _ (by simp only [fsz]; omega)
            have hf : ∀ j, j < 4 → p (cellAt k + j) = footF p (cellAt k) j := Classical.byContradiction fun q => by rw [eb.2 q] at h2; omega
            unfold nextF nextK
            rw [if_pos (by omega), if_neg (by omega)]
            exact ⟨by omega, fun g hg h6 => h.head g (by omega) h6, h.cells, h.le, fun q => by omega, rfl, fun _ q => by omega, fun q => by omega, fun _ => hk, fun _ => hf⟩
          · have e9 : f = 9 := by have := h.lt; omega
            subst e9
            exfalso
            unfold bad at h2
            rw [if_neg (by omega), if_neg (by omega), if_pos (by show _ < 1 ∨ 0 < _; omega)] at h2
            exact absurd h2 (by decide)
end Go.Proofs.YthmlfglllhmimaaGreatDoor.Frm
