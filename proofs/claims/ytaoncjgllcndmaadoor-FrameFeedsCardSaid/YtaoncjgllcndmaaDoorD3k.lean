import Derived.Test.YtaoncjgllcndmaaDoorD3l
namespace Go.Proofs.YtaoncjgllcndmaaDoor.Frm
open Go.RowKit Gf8 Aes By8 Cel
/- great. -/

/-- Is it more than a law copies? -/
def greatN (n : Nat) (ln : Nat → Nat) : Nat := match n with | 0 => 0 | k + 1 => greatN k ln + (ln k + 1)
theorem greatN_mono (ln : Nat → Nat) {i n : Nat} (h : i ≤ n) : greatN i ln ≤ greatN n ln := by
  induction n with
  | zero => rw [show i = 0 by omega]; exact Nat.le_refl _
  | succ n ih =>
    by_cases e : i = n + 1
    · rw [e]; exact Nat.le_refl _
    · have := ih (by omega)
      show greatN i ln ≤ greatN n ln + (ln n + 1)
      omega
theorem greatN_ge (ln : Nat → Nat) (n : Nat) : n ≤ greatN n ln := by
  induction n with
  | zero => exact Nat.zero_le _
  | succ n ih => show n + 1 ≤ greatN n ln + (ln n + 1); omega
theorem greatN_ln (ln : Nat → Nat) {i n : Nat} (h : i < n) : ln i ≤ greatN n ln := by
  have := greatN_mono ln (show i + 1 ≤ n from h)
  have e : greatN (i + 1) ln = greatN i ln + (ln i + 1) := rfl
  omega
set_option maxRecDepth 20000 in
set_option maxHeartbeats 400000 in
theorem great_any (cv : Value) (n : Nat) (xv : Nat → Value) (ln : Nat → Nat) (c : Nat → Nat → Nat) (V : World) (hc : Cells V cv n xv ln c) (hn : n ≤ 140737488351232) :
    Calls Tryd.prog 10 #[cv] V fun e w' => e = .returned (.bool (decide (2097152 < greatN n ln))) ∧ w' = V := by
  obtain ⟨ca, ccap, rfl, _, _, hs⟩ := id hc.shape
  have HB : Hid (Cells V (.slice ca n ccap) n xv ln c) := hc
  have HS : Hid (0 < n → ∃ b off, ca = some ⟨b, off, none⟩ ∧ b < V.heap.size ∧ ∀ i, i < n → V.cell? ⟨b, off + i, none⟩ = some (xv i)) := hs
  have nn : (n : Int) ≤ 140737488351232 := by omega
  clear hc hs
  go_enter Tryd.func10, Tryd.ntmps10
  go_wp2_with fail
  go_loopw [3, 8] (fun x z W => ∃ (i : Nat), i ≤ n ∧ x = .int .i64 (greatN i ln : Nat) ∧ z = .int .i64 (i : Int) ∧ greatN i ln ≤ 2097152 ∧ W = V) (fun _ z _ => n - (intOf z).toNat)
  case atStart => exact ⟨0, Nat.zero_le _, rfl, rfl, Nat.zero_le _, rfl⟩
  case round =>
    obtain ⟨i, hi, rfl, rfl, hg, rfl⟩ := hrel
    by_cases hlt : i < n
    · have i1 : (i : Int) < n := by omega
      obtain ⟨b, off, rfl, hb, hcell⟩ := HS.out (by omega)
      have c1 := hcell i hlt
      obtain ⟨ua, uc, eu, _⟩ := (HB.out.cell i hlt).shape
      rw [eu] at c1
      have ul := HB.out.lens i hlt
      have u1 : (ln i : Int) ≤ 140737488351232 := by omega
      obtain ⟨G, hG⟩ : ∃ G, greatN i ln = G := ⟨_, rfl⟩
      rw [hG] at hg ⊢
      have g1 : (G : Int) ≤ 2097152 := by omega
      have HK : Hid (i < n ∧ greatN (i + 1) ln = G + (ln i + 1)) := ⟨hlt, by rw [← hG]; rfl⟩
      by_cases h3 : 2097152 < G + (ln i + 1)
      · have i3 : (G : Int) + ((ln i : Int) + 1) > 2097152 := by omega
        have H3 : Hid (2097152 < G + (ln i + 1)) := h3
        clear hlt hi hg hb hcell eu ul h3 hG
        go_wp2
        go_ret
        refine ⟨?_, rfl⟩
        rw [decide_eq_true (by have := greatN_mono ln (show i + 1 ≤ n from HK.out.1); rw [HK.out.2] at this; have := H3.out; omega)]
        rfl
      · have i3 : ¬ (G : Int) + ((ln i : Int) + 1) > 2097152 := by omega
        have H3 : Hid (¬ 2097152 < G + (ln i + 1)) := h3
        clear hlt hi hg hb hcell eu ul h3 hG
        go_wp2
        go_roundw
        case rel => exact ⟨i + 1, HK.out.1, by rw [HK.out.2]; go_num, by go_num, by rw [HK.out.2]; have := H3.out; omega, by first | rfl | trivial⟩
        case measure => have := HK.out.1; simp [intOf]; omega
    · have ei : i = n := by omega
      subst ei
      have i1 : ¬ (i : Int) < i := by omega
      have HK : Hid (greatN i ln ≤ 2097152) := hg
      clear hg hi hlt
      go_wp2
      go_ret
      refine ⟨?_, rfl⟩
      rw [decide_eq_false (by have := HK.out; omega)]
      rfl
end Go.Proofs.YtaoncjgllcndmaaDoor.Frm
