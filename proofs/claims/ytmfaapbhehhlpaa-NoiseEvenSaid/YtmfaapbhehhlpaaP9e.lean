import Derived.Test.YtmfaapbhehhlpaaF9c
import Derived.Test.YtmfaapbhehhlpaaF9b
import Derived.Test.YtmfaapbhehhlpaaF9a
import Derived.Test.YtmfaapbhehhlpaaZ9a
import Derived.Test.YtmfaapbhehhlpaaP9b
import Derived.Test.YtmfaapbhehhlpaaV9o
import Derived.Test.YtmfaapbhehhlpaaB9a
import Derived.Test.YtmfaapbhehhlpaaG9c
import Derived.Test.YtmfaapbhehhlpaaV9q
namespace Go.Proofs.Ytmfaapbhehhlpaa.Prm
open Go.RowKit Gf8 Aes By8 Cel Cf Tap Drw
/- Stage 11's reference: Inverse, Compose, Apply, Fit, From. Written by tools/mkP9d.py. -/

/-- A length beside an error: none. -/
def zl (E L : Nat) : Nat := if E = 0 then L else 0
theorem zl_ok {L : Nat} : zl 0 L = L := rfl
theorem zl_no {E L : Nat} (h : E ≠ 0) : zl E L = 0 := if_neg h
theorem shpO {W : World} {B n : Nat} {t : TypeId} {v : Value} {xs : List Value} (h : W.ownsRow B t 1 v n xs) : ∃ g c, v = .slice g n c := by
  rcases h.2 with ⟨rfl, rfl⟩ | ⟨g, cap, cur, rfl, _⟩
  · exact ⟨_, _, rfl⟩
  · exact ⟨_, _, rfl⟩
end Go.Proofs.Ytmfaapbhehhlpaa.Prm

namespace Go.Proofs.Ytmfaapbhehhlpaa.Noi
open Go.RowKit Gf8 Aes By8 Cel Cf Tap Drw Prm
/- The reference's fits, weight, upto, Table, Count. Written by tools/mkB9b.py. -/

/-- The sum ahead of a place. -/
def sN (a d : Nat) : Nat → Nat
  | 0 => 0
  | k + 1 => sN a d k + wN a d k
theorem s_u {a d : Nat} : ∀ {k : Nat}, sN a d (k + 1) = uN a d k
  | 0 => by show 0 + wN a d 0 = wN a d 0; omega
  | k + 1 => by show sN a d (k + 1) + wN a d (k + 1) = uN a d k + wN a d (k + 1); rw [s_u]
theorem s_le {a d : Nat} (h : a ≤ d) : ∀ k, sN a d k ≤ k * 4294967296
  | 0 => by show 0 ≤ _; omega
  | k + 1 => by
    have h1 := s_le h k
    have h2 := w_le h k
    show sN a d k + wN a d k ≤ _
    omega
/-- What fits, what is answered. -/
abbrev fiN (a d m : Int) : Prop := 0 ≤ a ∧ a ≤ d ∧ 1 ≤ d ∧ d ≤ 1000 ∧ 0 ≤ m ∧ m ≤ 16
def tbE (a d m : Int) : Nat := if fiN a d m then 0 else 2
def tbF (a d m : Int) (k : Nat) : Int := ((tbN a.toNat d.toNat m.toNat k : Nat) : Int)
def ctE (L : Nat) (a d m : Int) : Nat := if fiN a d m then (if 18 ≤ L then 0 else 3) else 2
def ctN (p : Nat → Nat) (a d m : Int) : Nat := coN (tbN a.toNat d.toNat m.toNat) (p 0 * 256 + p 1) (m.toNat + 1)
theorem ct_is {p : Nat → Nat} {a d m i u : Nat} (hi : i ≤ m) (h1 : ∀ j, j < i → tbN a d m j ≤ u) (h2 : u < tbN a d m i) (eu : p 0 * 256 + p 1 = u) : ctN p ((a : Nat) : Int) ((d : Nat) : Int) ((m : Nat) : Int) = i := by
  unfold ctN
  rw [eu]
  exact co_stop (fun _ _ h _ => tb_mono h) (by show i < m + 1; omega) h1 h2
theorem tb_fits {na nd nm : Int} : ∀ j, j < zl (tbE na nd nm) (nm.toNat + 1) → -9223372036854775808 ≤ tbF na nd nm j ∧ tbF na nd nm j < 9223372036854775808 := fun j hj => by
  have h : tbN na.toNat nd.toNat nm.toNat j ≤ 65536 := tb_le (by
    by_cases h : tbE na nd nm = 0
    · rw [h, zl_ok] at hj; omega
    · rw [zl_no h] at hj; omega)
  unfold tbF
  omega
section
variable {o : Oper} {a : Act} {w : World}
theorem execLeIt {x y : Operand} {p q : Int} (ho : o.op = .binOp .leq 3 x y 3) (hx : a.eval x = .int .i64 p) (hy : a.eval y = .int .i64 q) (h : p ≤ q) : (execOp a.eval o).run Try.prog w = .ok (.value (.bool true)) w := by
  unfold execOp
  simp only [ho, hx, hy]
  simp [go_sem, h]
theorem execLeIf {x y : Operand} {p q : Int} (ho : o.op = .binOp .leq 3 x y 3) (hx : a.eval x = .int .i64 p) (hy : a.eval y = .int .i64 q) (h : ¬ p ≤ q) : (execOp a.eval o).run Try.prog w = .ok (.value (.bool false)) w := by
  unfold execOp
  simp only [ho, hx, hy]
  simp [go_sem]
  omega
end
theorem open_sl {W : World} {v : Value} {n : Nat} {f : Nat → Int} (h : SliceI W v n f) (hn : 0 < n) : ∃ b o c, v = .slice (some ⟨b, o, none⟩) n c ∧ b < W.heap.size ∧ ∀ j, j < n → W.cell? ⟨b, o + j, none⟩ = some (.int .i64 (f j)) := by
  obtain ⟨a, c, rfl, _, _, hs⟩ := h.shape
  obtain ⟨b, o, rfl, h1, h2⟩ := hs hn
  exact ⟨b, o, c, rfl, h1, h2⟩
theorem open_slB {W : World} {v : Value} {n : Nat} {f : Nat → Nat} (h : SliceN W v n f) (hn : 0 < n) : ∃ b o c, v = .slice (some ⟨b, o, none⟩) n c ∧ b < W.heap.size ∧ ∀ k, k < n → W.cell? ⟨b, o + k, none⟩ = some (.int .u8 ((f k : Nat) : Int)) := by
  obtain ⟨⟨a, c, e, _, _, h3⟩, _⟩ := h
  obtain ⟨b, o, e2, h4, h5⟩ := h3 hn
  exact ⟨b, o, c, by rw [e, e2], h4, h5⟩
end Go.Proofs.Ytmfaapbhehhlpaa.Noi

namespace Go.Proofs.Ytmfaapbhehhlpaa.Prm
open Go.RowKit Gf8 Aes By8 Cel Cf Tap Drw
/- Stage 11's reference: find, Rank. Written by tools/mkP9e.py. -/

theorem sl_no {A : Addr} {l h m x y : Nat} (e : sliced (some A) l h m 1 = .slice none x y) : y = 0 := by
  unfold sliced at e
  by_cases q : m = l
  · rw [if_pos q] at e; cases e
  · rw [if_neg q] at e; cases e
theorem SliceI.sub {w : World} {a : Option Addr} {len cap : Nat} {p : Nat → Int} (hv : SliceI w (.slice a len cap) len p) (l h : Nat) (h1 : l ≤ h) (h2 : h ≤ len) :
    SliceI w (sliced a l h cap 1) (h - l) (fun j => p (l + j)) := by
  obtain ⟨⟨a', cap', e, e1, e2, e3⟩, hp⟩ := hv
  obtain ⟨rfl, _, rfl⟩ : a = a' ∧ len = len ∧ cap = cap' := by
    injection e with x y z
    exact ⟨x, rfl, z⟩
  refine ⟨⟨_, cap - l, rfl, by omega, by omega, fun h0 => ?_⟩, fun j hj => hp (l + j) (by omega)⟩
  obtain ⟨b, off, rfl, hb, hc⟩ := e3 (by omega)
  rw [if_neg (by omega)]
  refine ⟨b, off + l, ?_, hb, fun j hj => ?_⟩
  · simp [Addr.add]
  · rw [Nat.add_assoc]; exact hc (l + j) (by omega)
/-- Two rows of one's own, apart. -/
structure Two (V W : World) (u : Value) (nu : Nat) (fu : Nat → Int) (lv : Value) (nl : Nat) (fl : Nat → Int) : Prop where
  ru : W.ownsRow V.heap.size 3 1 u nu (intsL nu fu)
  rl : W.ownsRow V.heap.size 3 1 lv nl (intsL nl fl)
  ap : ∀ k, u.ownBlock = some k → lv.ownBlock ≠ some k
section
variable {V W W' : World} {u lv : Value} {nu nl : Nat} {fu fl : Nat → Int}
theorem Two.on (h : Two V W u nu fu lv nl fl) (b : Below W.heap.size W W') : Two V W' u nu fu lv nl fl := ⟨ownD_below h.ru b, ownD_below h.rl b, h.ap⟩
theorem Two.over {C m : Nat} {v2 : Value} {ys : List Value} (h : Two V W u nu fu lv nl fl) (hu : ∀ k, u.ownBlock = some k → k < C) (hl : ∀ k, lv.ownBlock = some k → k < C) (h2 : W.ownsRow C 3 1 v2 m ys) (gr : W.grownBy W' v2.ownBlock) : Two V W' u nu fu lv nl fl :=
  ⟨own_overB h.ru hu h2 gr, own_overB h.rl hl h2 gr, h.ap⟩
theorem Two.new {C m nl' : Nat} {v' : Value} {f' fl' : Nat → Int} (h : Two V W u nu fu lv nl fl) (hu : ∀ k, u.ownBlock = some k → k < C) (own : W.ownsRow C 3 1 v' m (intsL m f')) (hC : V.heap.size ≤ C) (em : m = nl') (ef : ∀ j, j < nl' → f' j = fl' j) : Two V W u nu fu v' nl' fl' := by
  subst em
  refine ⟨h.ru, ?_, fun k e q => ?_⟩
  · rw [← intsL_congr ef]
    exact ownD_base own hC
  · have a1 := hu k e
    have a2 := (own.lt k q).1
    omega
theorem Two.lo {g c k : Nat} (h : Two V W u nu fu (.slice (some ⟨g, 0, none⟩) nl c) nl fl) (hf : ∀ j, j < nl → -9223372036854775808 ≤ fl j ∧ fl j < 9223372036854775808) (hk : k < nl) : SliceI W (.slice (some ⟨g, 0, none⟩) k c) k fl := by
  have h2 := SliceI.sub (own_ints h.rl hf) 0 k (Nat.zero_le _) (by omega)
  rw [sliced_0, Nat.sub_zero] at h2
  exact h2.cg fun j _ => by rw [Nat.zero_add]
theorem Two.hi {g c k : Nat} (h : Two V W u nu fu (.slice (some ⟨g, 0, none⟩) nl c) nl fl) (hf : ∀ j, j < nl → -9223372036854775808 ≤ fl j ∧ fl j < 9223372036854775808) (hk : k < nl) : SliceI W (sliced (some ⟨g, 0, none⟩) (k + 1) nl c 1) (nl - (k + 1)) (fun j => fl (k + 1 + j)) :=
  SliceI.sub (own_ints h.rl hf) (k + 1) nl hk (Nat.le_refl _)
end
end Go.Proofs.Ytmfaapbhehhlpaa.Prm
