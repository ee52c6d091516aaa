import Derived.Test.YtmmdaiknggjmmaaO3
namespace Go.Proofs.Ytmmdaiknggjmmaa.Cel
open Go.RowKit Gf8 Aes By8
/- CellOnly. -/

theorem open_yes {c : Nat → Nat} {len : Nat} (h : openY c len = true) : len = 320 ∧ c 0 = 1 ∧ c 1 ≤ 48 ∧ (∀ j, 2 + c 1 ≤ j → j < 320 → c j = 0) ∧ openE c len = 0 ∧ openN c len = c 1 := by
  have hy := h
  unfold openY at hy
  simp only [Bool.and_eq_true, decide_eq_true_eq] at hy
  obtain ⟨⟨⟨e, h0⟩, h1⟩, h2⟩ := hy
  refine ⟨e, h0, h1, (zeroFrom_iff c _).1 h2, ?_, ?_⟩
  · unfold openE; rw [if_neg (by omega), if_neg (by omega), if_neg (by omega), if_neg (by omega), if_pos h2]
  · unfold openN; rw [h]; rfl
theorem open_no {c : Nat → Nat} {len : Nat} (h : openY c len = false) : openN c len = 0 := by unfold openN; rw [h]; rfl
/-- A cell that opens is its payload's. -/
theorem only_eq {c : Nat → Nat} {len : Nat} (h : openY c len = true) : ∀ j, j < 320 → cellF 2 (headP (c 1)) (c 1) (fun j => c (2 + j)) j = c j := by
  obtain ⟨_, h0, h1, hz, _⟩ := open_yes h
  intro j hj
  unfold cellF headP
  by_cases a : j < 2
  · rw [if_pos a]
    by_cases b : j = 0
    · rw [if_pos b, b, h0]
    · rw [if_neg b, show j = 1 by omega]
  · rw [if_neg a]
    by_cases b : j < 2 + c 1
    · rw [if_pos b]; exact congrArg c (by omega)
    · rw [if_neg b, hz j (by omega) hj]

set_option maxRecDepth 20000 in
set_option maxHeartbeats 1000000 in
theorem only_any (I : Impl) (c : Nat → Nat) (len : Nat) (v : Value) (V : World) (hv : SliceZ V v len c) (hl : len ≤ 140737488351232) :
    Calls Try.prog 6 #[v] V fun e w' => e = .returned (.bool true) ∧ Below V.heap.size V w' := by
  have HI : Hid Impl := I
  have HL : Hid (len ≤ 140737488351232) := hl
  have P1 : Hid (∀ j, j < openN c len → c (2 + j) < 256) := fun j hj => hv.sl.bytes _ (openN_lt c len hj).2
  have sv : Hid (SliceZ V v len c) := hv
  have bel : Hid (Below V.heap.size V V) := Below.refl _ _
  have CB : Hid (∀ j, j < len → c j < 256) := hv.sl.bytes
  clear I hl hv
  cases hy : openY c len with
  | true =>
    obtain ⟨rfl, h0, h1, _, hE, hN⟩ := open_yes hy
    have X : Hid (openY c 320 = true ∧ openE c 320 = 0 ∧ openN c 320 = c 1 ∧ c 1 ≤ 48 ∧ okN 48 (c 1) = 320 ∧ okE 48 (c 1) = 0 ∧ ∀ j, j < 320 → cellF 2 (headP (c 1)) (c 1) (fun j => c (2 + j)) j = c j) := ⟨hy, hE, hN, h1, if_pos h1, if_pos h1, only_eq hy⟩
    have i1 : (c 1 : Int) ≤ 48 := by omega
    clear hy h0 h1 hE hN
    go_enter Try.func6, Try.ntmps6
    go_wp2_with (first
      | (go_at_call 8; refine (awake_any HI.out _).mono ?_; rintro e w0 ⟨rfl, hb0⟩; have sv : Hid (SliceZ w0 v 320 c) := sv.out.on hb0; have bel : Hid (Below V.heap.size V w0) := bel.out.trans (hb0.mono bel.out.size); clear hb0)
      | (go_at_call 18; refine (HI.out.opens c 320 v _ sv.out HL.out).mono ?_; rintro e w1 ⟨b, rfl, ob, hb1⟩; have sv : Hid (SliceZ w1 v 320 c) := sv.out.on hb1; have bel : Hid (Below V.heap.size V w1) := bel.out.trans (hb1.mono bel.out.size); have sb : SliceZ w1 b (openN c 320) (fun j => c (2 + j)) := own_sliceZ ob P1.out; rw [X.out.2.2.1] at sb; rw [X.out.1, X.out.2.1]; obtain ⟨ab, cb, rfl⟩ := sb.shape; have SB : Hid (_) := sb; clear sb ob hb1)
      | (go_at_call 13; refine (HI.out.plain (fun j => c (2 + j)) (c 1) _ _ SB.out (by have := X.out.2.2.2.1; omega)).mono ?_; rintro e w2 ⟨d, rfl, od, hb2⟩; have sv : Hid (SliceZ w2 v 320 c) := sv.out.on hb2; have bel : Hid (Below V.heap.size V w2) := bel.out.trans (hb2.mono bel.out.size); rw [X.out.2.2.2.2.1] at od; rw [X.out.2.2.2.2.2.1]; have sd : Hid (SliceN w2 d 320 c) := sliceN_cg (own_slice od (fun j hj => by rw [X.out.2.2.2.2.2.2 j hj]; exact CB.out j hj)) X.out.2.2.2.2.2.2; clear od hb2)
      | (refine wpList_ex rfl (execStr rfl rfl sv.out.sl) ?_)
      | (refine wpList_ex rfl (execStr rfl rfl sd.out) ?_)
      | (refine wpList_ex rfl (execEqlS rfl rfl rfl) ?_))
    go_ret
    exact ⟨rfl, bel.out⟩
  | false =>
    have X : Hid (openY c len = false ∧ openN c len = 0) := ⟨hy, open_no hy⟩
    obtain ⟨E, hE⟩ : ∃ E, openE c len = E := ⟨_, rfl⟩
    have XE : Hid (openE c len = E) := hE
    clear hy hE
    by_cases e0 : E = 0
    · subst e0
      go_enter Try.func6, Try.ntmps6
      go_wp2_with (first
        | (go_at_call 8; refine (awake_any HI.out _).mono ?_; rintro e w0 ⟨rfl, hb0⟩; have sv : Hid (SliceZ w0 v len c) := sv.out.on hb0; have bel : Hid (Below V.heap.size V w0) := bel.out.trans (hb0.mono bel.out.size); clear hb0)
        | (go_at_call 18; refine (HI.out.opens c len v _ sv.out HL.out).mono ?_; rintro e w1 ⟨b, rfl, ob, hb1⟩; have bel : Hid (Below V.heap.size V w1) := bel.out.trans (hb1.mono bel.out.size); have sb : SliceZ w1 b (openN c len) (fun j => c (2 + j)) := own_sliceZ ob P1.out; rw [X.out.2] at sb; rw [X.out.1, XE.out]; obtain ⟨ab, cb, rfl⟩ := sb.shape; clear sb ob hb1))
      go_ret
      exact ⟨rfl, bel.out⟩
    · have z0 : ((E : Int) != 0) = true := by simp; omega
      go_enter Try.func6, Try.ntmps6
      go_wp2_with (first
        | (go_at_call 8; refine (awake_any HI.out _).mono ?_; rintro e w0 ⟨rfl, hb0⟩; have sv : Hid (SliceZ w0 v len c) := sv.out.on hb0; have bel : Hid (Below V.heap.size V w0) := bel.out.trans (hb0.mono bel.out.size); clear hb0)
        | (go_at_call 18; refine (HI.out.opens c len v _ sv.out HL.out).mono ?_; rintro e w1 ⟨b, rfl, ob, hb1⟩; have bel : Hid (Below V.heap.size V w1) := bel.out.trans (hb1.mono bel.out.size); have sb : SliceZ w1 b (openN c len) (fun j => c (2 + j)) := own_sliceZ ob P1.out; rw [X.out.2] at sb; rw [X.out.1, XE.out]; obtain ⟨ab, cb, rfl⟩ := sb.shape; clear sb ob hb1))
      go_ret
      exact ⟨rfl, bel.out⟩
end Go.Proofs.Ytmmdaiknggjmmaa.Cel
