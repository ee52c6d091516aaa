import Derived.Test.YtmjpneaccjlpkaaS9a
namespace Go.Proofs.Ytmjpneaccjlpkaa.Rif
/- Draws of tapes that are alike as far as they go; a tape's order and its turn, over Nat (stage 13): names nothing of a program. -/
open Go.Proofs.Ytmjpneaccjlpkaa.Prm
open Go.Proofs.Ytmjpneaccjlpkaa.Brd
open Go.Proofs.Ytmjpneaccjlpkaa.Drw
section
variable {p q : Nat → Nat} {l : Nat} {bs : Nat → Int}
theorem dS_eq (h : ∀ j, j < l → p j = q j) {x : Nat} (hx : x ≤ l) (b : Int) : dS p l x b = dS q l x b := scan_eq fun j hj => h j (by omega)
theorem dE_eq (h : ∀ j, j < l → p j = q j) {x : Nat} (hx : x ≤ l) (b : Int) : dE p l x b = dE q l x b := by
 unfold dE; rw [dS_eq h hx]
theorem dV_eq (h : ∀ j, j < l → p j = q j) {x : Nat} (hx : x ≤ l) (b : Int) : dV p l x b = dV q l x b := by
 unfold dV
 rw [dE_eq h hx]
 by_cases c : dE q l x b = 0 ∧ b ≠ 1
 ·rw [if_pos c, if_pos c, dS_eq h hx]
  rcases (dE_ok c.1).2 with g | g
  ·exact absurd g c.2
  ·rw [h _ g]
 ·rw [if_neg c, if_neg c]
theorem dN_eq (h : ∀ j, j < l → p j = q j) {x : Nat} (hx : x ≤ l) (b : Int) : dN p l x b = dN q l x b := by
 unfold dN; rw [dE_eq h hx, dS_eq h hx]
theorem plA_eq (h : ∀ j, j < l → p j = q j) : ∀ i, plA p l bs i = plA q l bs i
 | 0 => rfl
 | i + 1 => by
  show dN p l (plA p l bs i) (bs i) = dN q l (plA q l bs i) (bs i)
  rw [plA_eq h i, dN_eq h (plA_le _ _ _ _)]
theorem dA_eq (h : ∀ j, j < l → p j = q j) (i : Nat) : dA p l bs i = dA q l bs i := by
 unfold dA; rw [plA_eq h, dV_eq h (plA_le _ _ _ _)]
theorem okA_eq (h : ∀ j, j < l → p j = q j) {n : Nat} (o : okA p l bs n) : okA q l bs n := fun i hi => by
 rw [← plA_eq h, ← dE_eq h (plA_le _ _ _ _)]; exact o i hi
theorem trF_eq (h : ∀ j, j < l → p j = q j) {ws us : Nat → Int} : ∀ {m}, (∀ i, i < m → ws i = us i) → ∀ {j}, j < l → trF p l bs ws m j = trF q l bs us m j
 | 0, _, j, hj => h j hj
 | m + 1, hw, j, hj => by
  show (if bs m ≠ 1 ∧ j = plA p l bs (m + 1) - 1 then p j - dA p l bs m + (ws m).toNat else trF p l bs ws m j) = (if bs m ≠ 1 ∧ j = plA q l bs (m + 1) - 1 then q j - dA q l bs m + (us m).toNat else trF q l bs us m j)
  rw [plA_eq h, dA_eq h, h j hj, hw m (by omega), trF_eq h (m := m) (fun i hi => hw i (by omega)) hj]
end
theorem drA_cg {n : Nat} {f g : Nat → Nat} (h : ∀ i, i < n → f i = g i) : ∀ {k}, k ≤ n → drA n f k = drA n g k
 | 0, _ => rfl
 | k + 1, hk => by
  show swp (drA n f k) (n - 1 - k) (posN (drA n f k) (f (n - 1 - k)) (n - k)) = swp (drA n g k) (n - 1 - k) (posN (drA n g k) (g (n - 1 - k)) (n - k))
  rw [drA_cg h (k := k) (by omega), h _ (by omega)]
theorem drD_cg {n : Nat} {f g : Nat → Nat} (h : ∀ i, i < n → f i = g i) {k : Nat} (hk : k < n) : drD n f k = drD n g k := by
 unfold drD
 rw [drA_cg h (by omega), h _ (by omega)]
section
variable {s C o W : Nat → Nat} {J n : Nat}
def cyO (s : Nat → Nat) (J n : Nat) (C o W : Nat → Nat) (k : Nat) : Nat := ovF s J C o n (poC s W k)
theorem cyO_lt (hn : sumN s J = n) (hC : IsPat s J n C) (ho : ∀ k, k < n → o k < lefC s C k (C k)) (hW : IsPat s J n W) {k : Nat} (hk : k < n) : cyO s J n C o W k < lefC s W k (W k) := by
 obtain ⟨i, hi, e⟩ := poC_onto hn hC (poC_lt hn hW hk)
 have ec : C i = W k := by rw [← poC_pj hC hi, e, poC_pj hW hk]
 have e' : sumN s (C i) + cntC C (C i) i = sumN s (W k) + cntC W (W k) k := e
 have h1 := ho i hi
 show ovF s J C o n (poC s W k) < s (W k) - cntC W (W k) k
 have h2 : o i < s (C i) - cntC C (C i) i := h1
 rw [← e, ovF_at hC o hi]
 rw [ec] at e' h2
 omega
theorem cyO_own (hC : IsPat s J n C) {k : Nat} (hk : k < n) : cyO s J n C o C k = o k := ovF_at hC o hk
theorem cyO_ov (hn : sumN s J = n) (hW : IsPat s J n W) {x : Nat} (hx : x < n) : ovF s J W (cyO s J n C o W) n x = ovF s J C o n x := by
 obtain ⟨i, hi, e⟩ := poC_onto hn hW hx
 rw [← e, ovF_at hW _ hi]
 rfl
end
def lb (L : Nat) : Nat := (L - 18) / 2
def lq (L J : Nat) : Nat := (L - 18 - (L - 18) / 2) / J
def brP (p : Nat → Nat) (j : Nat) : Nat := p (18 + j)
def ckP (L J : Nat) (p : Nat → Nat) (t j : Nat) : Nat := p (18 + lb L + t * lq L J + j)
def bI (k : Nat) (j : Nat) : Int := (k : Int) - (j : Int)
structure OkT (L J n : Nat) (s p : Nat → Nat) : Prop where
 br : okA (brP p) (lb L) (bI n) n
 ck : ∀ t, t < J → okA (ckP L J p t) (lq L J) (bI (s t)) (s t - 1)
def dB (L n : Nat) (p : Nat → Nat) (i : Nat) : Nat := dA (brP p) (lb L) (bI n) i
def dK (L J : Nat) (s p : Nat → Nat) (t i : Nat) : Nat := dA (ckP L J p t) (lq L J) (bI (s t)) i
def ptT (L J n : Nat) (s p : Nat → Nat) (i : Nat) : Nat := chD s J (dB L n p) i
def ofT (L J n : Nat) (s p : Nat → Nat) (i : Nat) : Nat := ofD s J (dB L n p) i
def owT (L J : Nat) (s p : Nat → Nat) (t i : Nat) : Nat := frA (s t) (dK L J s p t) (s t - 1) i
def orT (L J n : Nat) (s p : Nat → Nat) (i : Nat) : Nat := orC s (ptT L J n s p) (owT L J s p) i
def bW (L J n : Nat) (s p w : Nat → Nat) (i : Nat) : Int := (drC s (wC s J w) (cyO s J n (ptT L J n s p) (ofT L J n s p) (wC s J w)) i : Int)
def kW (J n : Nat) (s w : Nat → Nat) (t i : Nat) : Int := (drD (s t) (wO s J n w t) i : Int)
def tuB (L J n : Nat) (s p w : Nat → Nat) (x : Nat) : Nat := trF (brP p) (lb L) (bI n) (bW L J n s p w) n x
def tuK (L J n : Nat) (s p w : Nat → Nat) (t x : Nat) : Nat := trF (ckP L J p t) (lq L J) (bI (s t)) (kW J n s w t) (s t - 1) x
def tuT (L J n : Nat) (s p w : Nat → Nat) (x : Nat) : Nat :=
 if x < 18 then p x else if x < 18 + lb L then tuB L J n s p w (x - 18)
 else if x < 18 + lb L + J * lq L J then tuK L J n s p w ((x - 18 - lb L) / lq L J) ((x - 18 - lb L) % lq L J) else p x
section
variable {L J n : Nat} {s p w u : Nat → Nat}
theorem dA_lt' {q : Nat → Nat} {l m : Nat} {bs : Nat → Int} (h : okA q l bs m) {i : Nat} (hi : i < m) : (dA q l bs i : Int) < bs i := dV_lt (h i hi)
theorem dB_lt (h : OkT L J n s p) {i : Nat} (hi : i < n) : dB L n p i < n - i := by
 have : (dB L n p i : Int) < (n : Int) - (i : Int) := dA_lt' h.br hi
 omega
theorem dK_lt (h : OkT L J n s p) {t : Nat} (ht : t < J) {i : Nat} (hi : i < s t - 1) : dK L J s p t i < s t - i := by
 have : (dK L J s p t i : Int) < (s t : Int) - (i : Int) := dA_lt' (h.ck t ht) hi
 omega
theorem ptT_pat (hn : sumN s J = n) (h : OkT L J n s p) : IsPat s J n (ptT L J n s p) := chD_pat hn fun _ hi => dB_lt h hi
theorem ofT_lt (hn : sumN s J = n) (h : OkT L J n s p) {k : Nat} (hk : k < n) : ofT L J n s p k < lefC s (ptT L J n s p) k (ptT L J n s p k) := ofD_lt hn (fun _ hi => dB_lt h hi) hk
theorem owT_isP (h : OkT L J n s p) {t : Nat} (ht : t < J) : IsP (owT L J s p t) (s t) := frA_isP (by omega) fun _ hj => dK_lt h ht hj
theorem orT_isP (hn : sumN s J = n) (h : OkT L J n s p) : IsP (orT L J n s p) n := orC_isP hn (ptT_pat hn h) fun _ ht => owT_isP h ht
theorem bW_ok (hn : sumN s J = n) (h : OkT L J n s p) (hw : IsP w n) : wOk (bI n) (bW L J n s p w) n := fun i hi => by
 have g := drC_lt (o := cyO s J n (ptT L J n s p) (ofT L J n s p) (wC s J w)) hn (wC_pat hn hw).lt (fun _ q => cyO_lt hn (ptT_pat hn h) (fun _ q => ofT_lt hn h q) (wC_pat hn hw) q) hi
 constructor
 ·show (0 : Int) ≤ ((_ : Nat) : Int)
  omega
 ·show ((drC s (wC s J w) (cyO s J n (ptT L J n s p) (ofT L J n s p) (wC s J w)) i : Nat) : Int) < (n : Int) - (i : Int)
  omega
theorem kW_ok (t : Nat) : wOk (bI (s t)) (kW J n s w t) (s t - 1) := fun i hi => by
 have g := drD_lt (n := s t) (f := wO s J n w t) (k := i) (by omega)
 constructor
 ·show (0 : Int) ≤ ((_ : Nat) : Int)
  omega
 ·show ((drD (s t) (wO s J n w t) i : Nat) : Int) < (s t : Int) - (i : Int)
  omega
theorem tuT_br {j : Nat} (hj : j < lb L) : brP (tuT L J n s p w) j = tuB L J n s p w j := by
 show tuT L J n s p w (18 + j) = _
 unfold tuT
 rw [if_neg (by omega), if_pos (by omega), Nat.add_sub_cancel_left]
theorem tuT_ck {t j : Nat} (ht : t < J) (hj : j < lq L J) : ckP L J (tuT L J n s p w) t j = tuK L J n s p w t j := by
 show tuT L J n s p w (18 + lb L + t * lq L J + j) = _
 have h1 : (t + 1) * lq L J ≤ J * lq L J := Nat.mul_le_mul_right _ ht
 rw [Nat.add_mul, Nat.one_mul] at h1
 unfold tuT
 rw [if_neg (by omega), if_neg (by omega), if_pos (by omega), show 18 + lb L + t * lq L J + j - 18 - lb L = j + lq L J * t by rw [Nat.mul_comm (lq L J)]; omega, Nat.add_mul_div_left _ _ (by omega), Nat.add_mul_mod_self_left, Nat.div_eq_of_lt hj, Nat.mod_eq_of_lt hj, Nat.zero_add]
theorem tuT_dB (hn : sumN s J = n) (h : OkT L J n s p) (hw : IsP w n) {i : Nat} (hi : i < n) : dB L n (tuT L J n s p w) i = drC s (wC s J w) (cyO s J n (ptT L J n s p) (ofT L J n s p) (wC s J w)) i := by
 have e := turn_dA h.br (bW_ok hn h hw) hi
 have e2 : dB L n (tuT L J n s p w) i = dA (trF (brP p) (lb L) (bI n) (bW L J n s p w) n) (lb L) (bI n) i := dA_eq (fun _ hj => tuT_br hj) i
 rw [e2]
 exact Int.ofNat.inj e
theorem tuT_pt (hn : sumN s J = n) (h : OkT L J n s p) (hw : IsP w n) {i : Nat} (hi : i < n) : ptT L J n s (tuT L J n s p w) i = wC s J w i := by
 have hp := wC_pat hn hw
 show chD s J (dB L n (tuT L J n s p w)) i = _
 rw [chD_cg (fun _ hi => tuT_dB hn h hw hi) hi]
 exact ch_dr hn hp.lt (fun _ q => cyO_lt hn (ptT_pat hn h) (fun _ q => ofT_lt hn h q) hp q) hi
theorem tuT_of (hn : sumN s J = n) (h : OkT L J n s p) (hw : IsP w n) {i : Nat} (hi : i < n) : ofT L J n s (tuT L J n s p w) i = cyO s J n (ptT L J n s p) (ofT L J n s p) (wC s J w) i := by
 have hp := wC_pat hn hw
 show ofD s J (dB L n (tuT L J n s p w)) i = _
 rw [ofD_cg (fun _ hi => tuT_dB hn h hw hi) hi]
 exact of_dr hn hp.lt (fun _ q => cyO_lt hn (ptT_pat hn h) (fun _ q => ofT_lt hn h q) hp q) hi
theorem bW_tu (hn : sumN s J = n) (h : OkT L J n s p) (hu : IsP u n) (hw : IsP w n) {i : Nat} (hi : i < n) : bW L J n s (tuT L J n s p u) w i = bW L J n s p w i := by
 have e : cyO s J n (ptT L J n s (tuT L J n s p u)) (ofT L J n s (tuT L J n s p u)) (wC s J w) i = cyO s J n (ptT L J n s p) (ofT L J n s p) (wC s J w) i := by
  show ovF s J _ _ n (poC s (wC s J w) i) = ovF s J _ _ n (poC s (wC s J w) i)
  have hx := poC_lt hn (wC_pat hn hw) hi
  rw [ovF_cg (fun _ hi => tuT_pt hn h hu hi) (fun _ hi => tuT_of hn h hu hi) hx, cyO_ov hn (wC_pat hn hu) hx]
 show ((drC s (wC s J w) _ i : Nat) : Int) = ((drC s (wC s J w) _ i : Nat) : Int)
 rw [drC_cg (n := n) (fun _ _ => rfl) hi e]
theorem tu_tu (hn : sumN s J = n) (h : OkT L J n s p) (hu : IsP u n) (hw : IsP w n) (x : Nat) : tuT L J n s (tuT L J n s p u) w x = tuT L J n s p w x := by
 by_cases c1 : x < 18
 ·unfold tuT; rw [if_pos c1, if_pos c1, if_pos c1]
 by_cases c2 : x < 18 + lb L
 ·have e1 : x - 18 < lb L := by omega
  have e : tuT L J n s (tuT L J n s p u) w x = tuB L J n s (tuT L J n s p u) w (x - 18) := by
   show (if x < 18 then _ else _) = _
   rw [if_neg c1, if_pos c2]
  have e' : tuT L J n s p w x = tuB L J n s p w (x - 18) := by
   unfold tuT; rw [if_neg c1, if_pos c2]
  rw [e, e']
  show trF (brP (tuT L J n s p u)) (lb L) (bI n) (bW L J n s (tuT L J n s p u) w) n (x - 18) = trF (brP p) (lb L) (bI n) (bW L J n s p w) n (x - 18)
  rw [trF_eq (q := trF (brP p) (lb L) (bI n) (bW L J n s p u) n) (us := bW L J n s p w) (fun _ hj => tuT_br hj) (fun _ hi => bW_tu hn h hu hw hi) e1]
  exact turn_turn h.br (bW_ok hn h hu) _
 by_cases c3 : x < 18 + lb L + J * lq L J
 ·have hq : 0 < lq L J := by
   by_cases z : lq L J = 0
   ·rw [z] at c3; omega
   ·omega
  have ht : (x - 18 - lb L) / lq L J < J := Nat.div_lt_of_lt_mul (by rw [Nat.mul_comm]; omega)
  have hm := Nat.mod_lt (x - 18 - lb L) hq
  have e : tuT L J n s (tuT L J n s p u) w x = tuK L J n s (tuT L J n s p u) w ((x - 18 - lb L) / lq L J) ((x - 18 - lb L) % lq L J) := by
   show (if x < 18 then _ else _) = _
   rw [if_neg c1, if_neg c2, if_pos c3]
  have e' : tuT L J n s p w x = tuK L J n s p w ((x - 18 - lb L) / lq L J) ((x - 18 - lb L) % lq L J) := by
   unfold tuT; rw [if_neg c1, if_neg c2, if_pos c3]
  rw [e, e']
  generalize (x - 18 - lb L) / lq L J = t at ht ⊢
  generalize (x - 18 - lb L) % lq L J = y at hm ⊢
  show trF (ckP L J (tuT L J n s p u) t) (lq L J) (bI (s t)) (kW J n s w t) (s t - 1) y = trF (ckP L J p t) (lq L J) (bI (s t)) (kW J n s w t) (s t - 1) y
  rw [trF_eq (q := trF (ckP L J p t) (lq L J) (bI (s t)) (kW J n s u t) (s t - 1)) (us := kW J n s w t) (fun _ hj => tuT_ck ht hj) (fun _ _ => rfl) hm]
  exact turn_turn (h.ck t ht) (kW_ok t) _
 ·unfold tuT; rw [if_neg c1, if_neg c2, if_neg c3, if_neg c1, if_neg c2, if_neg c3, if_neg c1, if_neg c2, if_neg c3]
theorem tu_own (hn : sumN s J = n) (h : OkT L J n s p) (x : Nat) : tuT L J n s p (orT L J n s p) x = p x := by
 have hp := ptT_pat hn h
 have hP : ∀ t, t < J → IsP (owT L J s p t) (s t) := fun _ ht => owT_isP h ht
 have hC : ∀ i, i < n → wC s J (orT L J n s p) i = ptT L J n s p i := fun _ hi => orC_pj hp hP hi
 have hB : ∀ i, i < n → bW L J n s p (orT L J n s p) i = dB L n p i := fun i hi => by
  have e : cyO s J n (ptT L J n s p) (ofT L J n s p) (wC s J (orT L J n s p)) i = ofT L J n s p i := by
   show ovF s J _ _ n (poC s (wC s J (orT L J n s p)) i) = _
   rw [poC_cg hC hi]
   exact cyO_own hp hi
  show ((drC s (wC s J (orT L J n s p)) _ i : Nat) : Int) = (dB L n p i : Int)
  rw [drC_cg hC hi e, show drC s (ptT L J n s p) (ofT L J n s p) i = dB L n p i from dr_of hn (fun _ q => dB_lt h q) hi]
 have hK : ∀ t, t < J → ∀ i, i < s t - 1 → kW J n s (orT L J n s p) t i = dK L J s p t i := fun t ht i hi => by
  show ((drD (s t) (wO s J n (orT L J n s p) t) i : Nat) : Int) = (dK L J s p t i : Int)
  have e : drD (s t) (wO s J n (orT L J n s p) t) i = drD (s t) (owT L J s p t) i := drD_cg (fun _ hk => wO_or hp hP ht hk) (by omega)
  rw [e]
  exact congrArg Int.ofNat (draws_from (fun _ hj => dK_lt h ht hj) hi).2
 unfold tuT
 by_cases c1 : x < 18
 ·rw [if_pos c1]
 rw [if_neg c1]
 by_cases c2 : x < 18 + lb L
 ·rw [if_pos c2]
  show trF (brP p) (lb L) (bI n) (bW L J n s p (orT L J n s p)) n (x - 18) = p x
  rw [turn_own h.br hB]
  show p (18 + (x - 18)) = p x
  rw [show 18 + (x - 18) = x by omega]
 rw [if_neg c2]
 by_cases c3 : x < 18 + lb L + J * lq L J
 ·rw [if_pos c3]
  have hq : 0 < lq L J := by
   by_cases z : lq L J = 0
   ·rw [z] at c3; omega
   ·omega
  have ht : (x - 18 - lb L) / lq L J < J := Nat.div_lt_of_lt_mul (by rw [Nat.mul_comm]; omega)
  have hd := Nat.div_add_mod (x - 18 - lb L) (lq L J)
  rw [Nat.mul_comm] at hd
  show trF (ckP L J p _) (lq L J) (bI (s _)) (kW J n s (orT L J n s p) _) (s _ - 1) _ = p x
  rw [turn_own (h.ck _ ht) (hK _ ht)]
  show p (18 + lb L + _ * lq L J + _) = p x
  rw [show 18 + lb L + (x - 18 - lb L) / lq L J * lq L J + (x - 18 - lb L) % lq L J = x by omega]
 ·rw [if_neg c3]
theorem tu_back (hn : sumN s J = n) (h : OkT L J n s p) (hw : IsP w n) (x : Nat) : tuT L J n s (tuT L J n s p w) (orT L J n s p) x = p x := by
 rw [tu_tu hn h hw (orT_isP hn h), tu_own hn h]
end
end Go.Proofs.Ytmjpneaccjlpkaa.Rif
