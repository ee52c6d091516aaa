import Derived.Test.YtnjmcknanlbpdaaGreatDoorX5l
namespace Go.Proofs.YtnjmcknanlbpdaaGreatDoor.Oni
open Go.RowKit Gf8 Aes By8 Cel
/- What is wrapped is peeled; alive. -/

/-- An onion in its cell. -/
def cwF (key nonce : Nat → Nat) (L n : Nat) (inner : Nat → Nat) : Nat → Nat := cellF 0 headO (sz L) (wrF key nonce L n inner)
section
variable {key nonce inner : Nat → Nat} {L n : Nat}
theorem cw_in (j : Nat) (h : j < sz (L : Int)) : cwF key nonce L n inner j = wrF key nonce L n inner j := by
  unfold cwF cellF
  rw [if_neg (by omega), if_pos (by omega), Nat.sub_zero]
theorem cw_out (j : Nat) (h : sz (L : Int) ≤ j) : cwF key nonce L n inner j = 0 := by
  unfold cwF cellF
  rw [if_neg (by omega), if_neg (by omega)]
theorem wr_nonce (j : Nat) (h : j < 16) : wrF key nonce L n inner j = nonce j := by unfold wrF onB; rw [if_pos h]
theorem wr_tag (j : Nat) (h : j < 16) : wrF key nonce L n inner (16 + j) = tgF (dk key nonce) L nonce (bxF (dk key nonce) (pbF n inner)) (sz L - 32) j := by
  unfold wrF onB
  rw [if_neg (by omega), if_pos (by omega)]
  congr 1
  omega
theorem wr_box (j : Nat) : wrF key nonce L n inner (32 + j) = bxF (dk key nonce) (pbF n inner) j := by
  unfold wrF onB
  rw [if_neg (by omega), if_neg (by omega)]
  congr 1
  omega
theorem szL (hL : 1 ≤ L ∧ L ≤ 8) : sz (L : Int) = 48 + 34 * L := by unfold sz; rw [if_pos (by omega)]; simp
theorem cw_dk (hL : 1 ≤ L ∧ L ≤ 8) : dk key (cwF key nonce L n inner) = dk key nonce :=
  dk_congr (fun _ _ => rfl) fun i hi => by rw [cw_in i (by rw [szL hL]; omega), wr_nonce i hi]
theorem cw_cut (hL : 1 ≤ L ∧ L ≤ 8) (k : Int) (h : (sz (L : Int) : Int) ≤ k) (hk : k ≤ 320) : cutE (cwF key nonce L n inner) 320 k = 0 := by
  have _ := hL
  unfold cutE
  rw [if_neg (by simp), if_neg (by omega), if_pos]
  refine (zeroFrom_iff _ _).2 fun j h1 _ => cw_out j (by omega)
theorem cw_tag (hL : 1 ≤ L ∧ L ≤ 8) : peT key L (cwF key nonce L n inner) = true := by
  unfold peT
  rw [eqB_iff]
  intro j hj
  have s := szL hL
  show cwF key nonce L n inner (16 + j) = _
  rw [cw_in _ (by omega), wr_tag j hj, cw_dk hL, show (L : Int).toNat = L from by simp]
  refine congrFun (tgF_congr (fun i hi => ?_) fun i hi => ?_) j
  · rw [cw_in i (by omega), wr_nonce i hi]
  · show _ = cwF key nonce L n inner (32 + i)
    rw [cw_in _ (by omega), wr_box]
theorem cw_plain (hL : 1 ≤ L ∧ L ≤ 8) (j : Nat) (h : j < sz (L : Int) - 32) : peP key (cwF key nonce L n inner) j = pbF n inner j := by
  have s := szL hL
  unfold peP
  rw [cw_dk hL]
  unfold bxF maskF
  show cwF key nonce L n inner (32 + j) ^^^ _ = _
  rw [cw_in _ (by omega), wr_box]
  unfold bxF maskF
  rw [Nat.xor_assoc, Nat.xor_self, Nat.xor_zero]
theorem pb_n (hL : 1 ≤ L ∧ L ≤ 8) : inN (pbF n inner) = n := by
  have _ := hL
  unfold inN pbF cellF hd2
  simp
  omega
theorem cw_n (hL : 1 ≤ L ∧ L ≤ 8) : inN (peP key (cwF key nonce L n inner)) = n := by
  have s := szL hL
  unfold inN
  rw [cw_plain hL 0 (by omega), cw_plain hL 1 (by omega)]
  exact pb_n hL
theorem cw_ok (hL : 1 ≤ L ∧ L ≤ 8) (hn : n ≤ sz (L : Int) - 34) : inOk (sz (L : Int) - 32) (peP key (cwF key nonce L n inner)) = true := by
  have s := szL hL
  unfold inOk
  rw [cw_n hL, decide_eq_true (by omega), Bool.true_and]
  refine (zeroF_iff _ _ _).2 fun j h1 h2 => ?_
  rw [cw_plain hL j h2]
  unfold pbF cellF
  rw [if_neg (by omega), if_neg (by omega)]
theorem cw_inner (hL : 1 ≤ L ∧ L ≤ 8) (j : Nat) (hj : j < n) (hn : n ≤ sz (L : Int) - 34) : peP key (cwF key nonce L n inner) (2 + j) = inner j := by
  have s := szL hL
  rw [cw_plain hL _ (by omega)]
  unfold pbF cellF
  rw [if_neg (by omega), if_pos (by omega)]
  congr 1
  omega
theorem cw_e (hL : 1 ≤ L ∧ L ≤ 8) (hn : n ≤ sz (L : Int) - 34) : peE 32 L 320 key (cwF key nonce L n inner) = 0 := by
  have s := szL hL
  unfold peE
  rw [if_neg (by simp; omega), if_neg (by rw [cw_cut hL _ (by omega) (by omega)]; simp), if_neg (by rw [cw_tag hL]; simp), if_neg (by rw [cw_ok hL hn]; simp)]
theorem cw_c (hL : 1 ≤ L ∧ L ≤ 8) (hn : n ≤ sz (L : Int) - 34) : ∀ j, peC L key (cwF key nonce L n inner) j = nxF L n inner j := by
  intro j
  unfold peC nxF
  rw [cw_n hL]
  split
  · unfold cellF
    split
    · rfl
    · split
      · exact cw_inner hL _ (by omega) hn
      · rfl
  · unfold cellF
    split
    · rfl
    · split
      · exact cw_inner hL _ (by omega) hn
      · rfl
end
/-- The nonce of alive. -/
def oneF : Nat → Nat := fun j => if j = 0 then 1 else 0
end Go.Proofs.YtnjmcknanlbpdaaGreatDoor.Oni

namespace Go.Proofs.YtnjmcknanlbpdaaGreatDoor.Rou
open Go.RowKit Gf8 Aes By8 Cel Oni
/- Layer 8 (route) over Nat: chains. -/

/-- The length of what stands behind m layers. -/
def loN (n : Nat) : Nat → Nat
  | 0 => n
  | m + 1 => 48 + 34 * (m + 1)
/-- What stands behind m layers of a chain of h hops. -/
def loF (h : Nat) (key nonce : Nat → Nat → Nat) (n : Nat) (p : Nat → Nat) : Nat → Nat → Nat
  | 0 => p
  | m + 1 => wrF (key (h - (m + 1))) (nonce (h - (m + 1))) (m + 1) (loN n m) (loF h key nonce n p m)
def ksOk (h : Nat) (lk : Nat → Nat) : Bool := (List.range h).all fun i => lk i == 32
theorem ksOk_iff (h : Nat) (lk : Nat → Nat) : ksOk h lk = true ↔ ∀ i, i < h → lk i = 32 := by
  unfold ksOk
  simp [List.all_eq_true]
/-- What Wrap answers. -/
def rwE (h hn : Nat) (lk : Nat → Nat) (n : Nat) : Nat := if h < 1 ∨ 8 < h ∨ hn ≠ h then 80 else if ksOk h lk then (if 48 < n then 1 else 0) else 2
def rwN (h hn : Nat) (lk : Nat → Nat) (n : Nat) : Nat := if rwE h hn lk n = 0 then 320 else 0
def rwF (h : Nat) (key nonce : Nat → Nat → Nat) (n : Nat) (p : Nat → Nat) : Nat → Nat := cellF 0 headO (loN n h) (loF h key nonce n p h)
theorem rwE_ok {h hn : Nat} {lk : Nat → Nat} {n : Nat} (e : rwE h hn lk n = 0) : 1 ≤ h ∧ h ≤ 8 ∧ hn = h ∧ (∀ i, i < h → lk i = 32) ∧ n ≤ 48 := by
  unfold rwE at e
  split at e
  · omega
  · split at e
    · rename_i k
      split at e
      · omega
      · exact ⟨by omega, by omega, by omega, (ksOk_iff _ _).1 k, by omega⟩
    · omega
theorem rwE_is {h hn : Nat} {lk : Nat → Nat} {n : Nat} (h1 : 1 ≤ h) (h2 : h ≤ 8) (h3 : hn = h) (h4 : ∀ i, i < h → lk i = 32) (h5 : n ≤ 48) : rwE h hn lk n = 0 := by
  unfold rwE
  rw [if_neg (by omega), if_pos ((ksOk_iff _ _).2 h4), if_neg (by omega)]
theorem loN_sz (n : Nat) {m : Nat} (h1 : 1 ≤ m) (h2 : m ≤ 8) : loN n m = sz (m : Int) := by
  obtain ⟨k, rfl⟩ : ∃ k, m = k + 1 := ⟨m - 1, by omega⟩
  rw [szL (L := k + 1) (by omega)]
  rfl
theorem loN_room {n m : Nat} (hn : n ≤ 48) (h2 : m < 8) : loN n m ≤ sz ((m + 1 : Nat) : Int) - 34 := by
  rw [szL (L := m + 1) (by omega)]
  cases m with
  | zero => show n ≤ _; omega
  | succ k => show 48 + 34 * (k + 1) ≤ _; omega
theorem loN_le {n m : Nat} (hn : n ≤ 48) (h2 : m ≤ 8) : loN n m ≤ 320 := by
  cases m with
  | zero => show n ≤ _; omega
  | succ k => show 48 + 34 * (k + 1) ≤ _; omega
theorem lay_e {n m : Nat} (hn : n ≤ 48) (h2 : m < 8) : wrE 32 ((m + 1 : Nat) : Int) (loN n m) = 0 ∧ wrN 32 ((m + 1 : Nat) : Int) (loN n m) = loN n (m + 1) := by
  have hr := loN_room hn h2
  have hs := szL (L := m + 1) (by omega)
  have e : wrE 32 ((m + 1 : Nat) : Int) (loN n m) = 0 := by
    unfold wrE
    rw [if_neg (by rw [hs]; omega), if_neg (by omega)]
  exact ⟨e, by unfold wrN; rw [if_pos e, hs]; rfl⟩
/-- What Walk goes through. -/
def wkC (h : Nat) (key : Nat → Nat → Nat) (c : Nat → Nat) : Nat → Nat → Nat
  | 0 => c
  | i + 1 => peC ((h - i : Nat) : Int) (key i) (wkC h key c i)
def wkL (len : Nat) : Nat → Nat
  | 0 => len
  | _ + 1 => 320
def wkG (h : Nat) (key : Nat → Nat → Nat) (lk : Nat → Nat) (len : Nat) (c : Nat → Nat) : Nat → Nat
  | 0 => 0
  | i + 1 => if wkG h key lk len c i ≠ 0 then wkG h key lk len c i else peE (lk i) ((h - i : Nat) : Int) (wkL len i) (key i) (wkC h key c i)
theorem wkG_stop {h : Nat} {key : Nat → Nat → Nat} {lk : Nat → Nat} {len : Nat} {c : Nat → Nat} {i : Nat} (hi : wkG h key lk len c i ≠ 0) : ∀ {k}, i ≤ k → wkG h key lk len c k = wkG h key lk len c i := by
  intro k hk
  induction k with
  | zero => obtain rfl : i = 0 := by omega
            rfl
  | succ m ih =>
    by_cases e : i = m + 1
    · rw [e]
    · have h1 := ih (by omega)
      show (if wkG h key lk len c m ≠ 0 then wkG h key lk len c m else _) = _
      rw [if_pos (by rw [h1]; exact hi), h1]
theorem wkG_on {h : Nat} {key : Nat → Nat → Nat} {lk : Nat → Nat} {len : Nat} {c : Nat → Nat} {i : Nat} (h0 : wkG h key lk len c i = 0) : wkG h key lk len c (i + 1) = peE (lk i) ((h - i : Nat) : Int) (wkL len i) (key i) (wkC h key c i) := by
  show (if wkG h key lk len c i ≠ 0 then _ else _) = _
  rw [if_neg (by rw [h0]; simp)]
/-- The cell behind m layers. -/
def ceF (h : Nat) (key nonce : Nat → Nat → Nat) (n : Nat) (p : Nat → Nat) (m : Nat) : Nat → Nat := if m = 0 then cellF 2 (headP n) n p else cellF 0 headO (loN n m) (loF h key nonce n p m)
theorem rw_ce {h : Nat} {key nonce : Nat → Nat → Nat} {n : Nat} {p : Nat → Nat} (h1 : 1 ≤ h) : rwF h key nonce n p = ceF h key nonce n p h := by
  unfold ceF rwF
  rw [if_neg (by omega)]
theorem ce_cw {h : Nat} {key nonce : Nat → Nat → Nat} {n : Nat} {p : Nat → Nat} {m : Nat} (h2 : m < 8) : ceF h key nonce n p (m + 1) = cwF (key (h - (m + 1))) (nonce (h - (m + 1))) (m + 1) (loN n m) (loF h key nonce n p m) := by
  unfold ceF cwF
  rw [if_neg (by omega), loN_sz n (by omega) (by omega)]
  rfl
/-- One hop peels one layer. -/
theorem ce_peel {h : Nat} {key nonce : Nat → Nat → Nat} {n : Nat} {p : Nat → Nat} {m : Nat} (hn : n ≤ 48) (h2 : m < 8) :
    peE 32 ((m + 1 : Nat) : Int) 320 (key (h - (m + 1))) (ceF h key nonce n p (m + 1)) = 0 ∧ peC ((m + 1 : Nat) : Int) (key (h - (m + 1))) (ceF h key nonce n p (m + 1)) = ceF h key nonce n p m := by
  have hr := loN_room hn h2
  have hL : 1 ≤ m + 1 ∧ m + 1 ≤ 8 := by omega
  rw [ce_cw h2]
  refine ⟨cw_e (L := m + 1) hL hr, ?_⟩
  funext j
  rw [cw_c (L := m + 1) hL hr j]
  unfold Oni.nxF ceF
  by_cases h0 : m = 0
  · subst h0
    rw [if_neg (by omega), if_pos rfl]
    rfl
  · rw [if_pos (by omega), if_neg h0]
theorem ce_walk {h : Nat} {key nonce : Nat → Nat → Nat} {n : Nat} {p : Nat → Nat} {lk : Nat → Nat} (hn : n ≤ 48) (h8 : h ≤ 8) (hk : ∀ i, i < h → lk i = 32) : ∀ i, i ≤ h → wkC h key (ceF h key nonce n p h) i = ceF h key nonce n p (h - i) ∧ wkG h key lk 320 (ceF h key nonce n p h) i = 0
  | 0, _ => ⟨rfl, rfl⟩
  | i + 1, hi => by
    obtain ⟨e1, e2⟩ := ce_walk hn h8 hk i (by omega)
    have hp := ce_peel (h := h) (key := key) (nonce := nonce) (n := n) (p := p) (m := h - (i + 1)) hn (by omega)
    have e3 : h - (i + 1) + 1 = h - i := by omega
    have e4 : h - (h - i) = i := by omega
    rw [e3, e4] at hp
    refine ⟨?_, ?_⟩
    · show peC ((h - i : Nat) : Int) (key i) (wkC h key _ i) = _
      rw [e1]
      exact hp.2
    · rw [wkG_on e2, e1, hk i (by omega), show wkL 320 i = 320 by cases i <;> rfl]
      exact hp.1
end Go.Proofs.YtnjmcknanlbpdaaGreatDoor.Rou
