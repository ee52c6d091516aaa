import Derived.Test.YtdecmmcphcomhaaQ9q
import Derived.Test.YtdecmmcphcomhaaQ9r
namespace Go.Proofs.Ytdecmmcphcomhaa.Brd
open Go.RowKit Gf8 Aes By8 Cel Cf Tap Drw Prm
/- Stage 12's BraidPatterns. Written by tools/mkQ9v.py. -/

theorem AskL.at {W : World} {v : Value} {n : Nat} {q : Nat → Nat → Value} {ln : Nat → Nat → Nat} {ff : Nat → Nat → Nat → Int} (h : AskL W v n q ln ff) (hn : 0 < n) : ∃ b o c, v = .slice (some ⟨b, o, none⟩) n c ∧ b < W.heap.size ∧ ∀ i, i < n → ∀ t, t < 4 → W.cell? ⟨b, o + i * 4 + t, none⟩ = some (q i t) := by
  obtain ⟨a, c, rfl, hs⟩ := h.shape
  obtain ⟨b, o, rfl, h1, h2⟩ := hs hn
  exact ⟨b, o, c, rfl, h1, h2⟩
section
variable {o : Oper} {a : Act} {w : World}
end
/-- What lent makes. -/
def CT (f : Nat → Int) (n : Nat) : Nat → Int := catI n f (fun j => if j = 0 then -77 else -78)
theorem CT_lo {f : Nat → Int} {n j : Nat} (h : j < n) : CT f n j = f j := if_pos h
theorem CT_fits {f : Nat → Int} {n : Nat} (hf : ∀ j, j < n → -9223372036854775808 ≤ f j ∧ f j < 9223372036854775808) (j : Nat) : -9223372036854775808 ≤ CT f n j ∧ CT f n j < 9223372036854775808 := by
  unfold CT catI
  by_cases h : j < n
  · rw [if_pos h]; exact hf j h
  · rw [if_neg h]
    show _ ≤ (if j - n = 0 then (-77 : Int) else -78) ∧ (if j - n = 0 then (-77 : Int) else -78) < _
    split <;> omega
theorem lent_in {W : World} {B n g c : Nat} {f : Nat → Int} (h : W.ownsRow B 3 1 (.slice (some ⟨g, 0, none⟩) (n + 2) c) (n + 2) (intsL (n + 2) (CT f n))) (hf : ∀ j, j < n → -9223372036854775808 ≤ f j ∧ f j < 9223372036854775808) : SliceI W (.slice (some ⟨g, 0, none⟩) n c) n f := by
  have h1 := own_takeI h (show n ≤ n + 2 by omega)
  rw [intsL_congr (g := f) (fun j hj => CT_lo hj)] at h1
  exact own_ints h1 hf
theorem whole_lent {W : World} {B n g c : Nat} {f : Nat → Int} {lv : Value} (h : W.ownsRow B 3 1 (.slice (some ⟨g, 0, none⟩) (n + 2) c) (n + 2) (intsL (n + 2) (CT f n))) (hv : SliceI W lv n f) (hn : n ≤ 17592186044000) :
    Calls Try.prog 21 #[.slice (some ⟨g, 0, none⟩) (n + 2) c, lv] W fun e w' => e = .returned (.bool true) ∧ Below W.heap.size W w' :=
  whole_any f (CT f n) n g c lv W hv (own_ints h (fun j _ => CT_fits hv.fits j)) (fun j hj => CT_lo hj) (by unfold CT catI; rw [if_neg (by omega)]; show (if n - n = 0 then (-77 : Int) else -78) = -77; rw [Nat.sub_self]; rfl) (by unfold CT catI; rw [if_neg (by omega)]; show (if n + 1 - n = 0 then (-77 : Int) else -78) = -78; rw [if_neg (by omega)]) hn
end Go.Proofs.Ytdecmmcphcomhaa.Brd
