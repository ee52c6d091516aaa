import Derived.Test.YtmfaapbhehhlpaaB9b
import Derived.Test.YtmfaapbhehhlpaaP9e
import Derived.Test.YtmfaapbhehhlpaaI4
import Derived.Test.YtmfaapbhehhlpaaO1
import Derived.Test.YtmfaapbhehhlpaaX7b
namespace Go.Proofs.Ytmfaapbhehhlpaa.Noi
open Go.RowKit Gf8 Aes By8 Cel Cf Tap Drw Prm
/- The reference's Size, Cells. Written by tools/mkB9c.py. -/

/-- The cells: their size ahead of padding, the stream, each one's bytes; what is refused. -/
def szC (l : Nat) : Nat := if l = 0 then 48 else 82 + 34 * (l - 1)
def stC (p : Nat → Nat) : Nat → Nat := maskF (kw fun j => p (2 + j)) 0 fun _ => 0
def clC (p : Nat → Nat) (l i : Nat) : Nat → Nat := cellF (if l = 0 then 1 else 0) headO (szC l) fun j => stC p (i * szC l + j)
def clE (L : Nat) (nc nl : Int) : Nat := if 0 ≤ nc ∧ nc ≤ 16 ∧ 0 ≤ nl ∧ nl < 8 then (if 18 ≤ L then 0 else 3) else 2
theorem sz_pos {l : Nat} (h : 1 ≤ l) : szC l = 82 + 34 * (l - 1) := if_neg (by omega)
theorem szC_le {l : Nat} (h : l ≤ 7) : szC l ≤ 286 := by
  unfold szC
  by_cases q : l = 0
  · rw [if_pos q]; omega
  · rw [if_neg q]; omega
theorem szC_ge (l : Nat) : 48 ≤ szC l := by
  unfold szC
  by_cases q : l = 0
  · rw [if_pos q]; omega
  · rw [if_neg q]; omega
theorem be_0 (j : Nat) : be 0 j = 0 := by
  unfold be
  rw [Nat.zero_div]
section
variable {o : Oper} {a : Act} {w : World}
end
theorem sz_some {W : World} {v : Value} {n : Nat} {f : Nat → Nat} (h : SliceN W v n f) (hn : 0 < n) : ∃ b o c, v = .slice (some ⟨b, o, none⟩) n c ∧ n ≤ c := by
  obtain ⟨⟨a, c, e, h1, _, h3⟩, _⟩ := h
  obtain ⟨b, o, e2, _⟩ := h3 hn
  exact ⟨b, o, c, by rw [e, e2], h1⟩
theorem piece15 {W : World} {v : Value} {b o c n l m : Nat} {f : Nat → Nat} (e : v = .slice (some ⟨b, o, none⟩) n c) (h : SliceN W v n f) (hl : l + m ≤ n) : SliceZ W (sliced (some ⟨b, o, none⟩) l (l + m) c 1) m (fun j => f (l + j)) := by
  subst e
  have h2 := SliceN.sub h l (l + m) (by omega) hl
  rw [show l + m - l = m by omega] at h2
  refine ⟨h2, fun q1 q2 e => ?_⟩
  exact sl_no e
theorem fam_add9 {B C i : Nat} {y : Nat → Value} {f : Nat → Nat → Nat} {r : Value} {W : World} (h : Fam B i y (fun _ => 320) f W) (hlo : ∀ t, t < i → ∀ b, (y t).ownBlock = some b → b < C) (hr : W.ownsRow C 5 1 r 320 (bytesL 320 (f i))) (hB : B ≤ C) : Fam B (i + 1) (updX y i r) (fun _ => 320) f W := by
  refine ⟨fun t ht => ?_, fun s t hs ht hst b e1 e2 => ?_⟩
  · by_cases e : t = i
    · subst e; rw [updX_at]; exact own_base hr hB
    · rw [updX_lt _ _ (by omega)]; exact h.rows t (by omega)
  · by_cases es : s = i
    · subst es
      rw [updX_at] at e1
      rw [updX_lt _ _ (by omega)] at e2
      have a1 := hlo t (by omega) b e2
      have a2 := (hr.lt b e1).1
      omega
    · rw [updX_lt _ _ (by omega)] at e1
      by_cases et : t = i
      · subst et
        rw [updX_at] at e2
        have a1 := hlo s (by omega) b e1
        have a2 := (hr.lt b e2).1
        omega
      · rw [updX_lt _ _ (by omega)] at e2
        exact h.dis s t (by omega) (by omega) hst b e1 e2
end Go.Proofs.Ytmfaapbhehhlpaa.Noi
