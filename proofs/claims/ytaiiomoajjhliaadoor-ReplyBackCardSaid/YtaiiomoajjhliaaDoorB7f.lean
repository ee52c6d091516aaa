import Derived.Test.YtaiiomoajjhliaaDoorX6l
import Derived.Test.YtaiiomoajjhliaaDoorX6n
import Derived.Test.YtaiiomoajjhliaaDoorX7f
import Derived.Test.YtaiiomoajjhliaaDoorC6
namespace Go.Proofs.YtaiiomoajjhliaaDoor.Rou
open Go.RowKit Gf8 Aes By8 Cel Oni
/- A chain in the heap; isChain, areKeys. -/

/-- A [][16]byte: n arrays, the i-th of the bytes q i. -/
structure Nons (W : World) (v : Value) (n : Nat) (q : Nat → Nat → Nat) : Prop where
  shape : ∃ a cap, v = .slice a n cap ∧ n ≤ cap ∧ cap < 9223372036854775808 ∧ (0 < n → ∃ b off, a = some ⟨b, off, none⟩ ∧ b < W.heap.size ∧ ∀ i, i < n → ∀ j, j < 16 → W.cell? ⟨b, off + i * 16 + j, none⟩ = some (.int .u8 (q i j)))
  by_ : ∀ i, i < n → By (q i)
theorem Nons.on {W W' : World} {v : Value} {n : Nat} {q : Nat → Nat → Nat} (h : Nons W v n q) (hb : Below W.heap.size W W') : Nons W' v n q := by
  obtain ⟨a, cap, e, h1, h2, h3⟩ := h.shape
  refine ⟨⟨a, cap, e, h1, h2, fun h0 => ?_⟩, h.by_⟩
  obtain ⟨b, off, e2, hl, hc⟩ := h3 h0
  exact ⟨b, off, e2, Nat.lt_of_lt_of_le hl hb.size, fun i hi j hj => by rw [cell_below hb hl]; exact hc i hi j hj⟩
theorem loF_lt {h : Nat} {key q : Nat → Nat → Nat} {n : Nat} {p : Nat → Nat} (hq : ∀ i, i < h → By (q i)) (hn : n ≤ 48) (hp : ∀ j, j < n → p j < 256) : ∀ m, m ≤ h → m ≤ 8 → ∀ j, j < loN n m → loF h key q n p m j < 256
  | 0, _, _, j, hj => hp j hj
  | m + 1, hm, h8, j, _ => by
    have hl := loN_le (n := n) (m := m) hn (by omega)
    exact wrF_lt (hq _ (by omega)) (by omega) (fun j hj => loF_lt hq hn hp m (by omega) (by omega) j hj) j
section
variable {o : Oper} {a : Act} {w : World}
theorem execIdxA {x i : Operand} {b off n cap k : Nat} (ho : o.op = .indexAddr 23 x i) (hx : a.eval x = .slice (some ⟨b, off, none⟩) n cap) (hi : a.eval i = .int .i64 (k : Int)) (hk : k < n) : (execOp a.eval o).run Tryd.prog w = .ok (.value (.pointer (some ⟨b, off + k * 16, none⟩))) w := by
  have h1 : (k : Int) < n := by omega
  unfold execOp
  simp only [ho, hx, hi]
  simp [go_sem, h1, Addr.add_mid]
theorem execSubJ {x y : Operand} {p q r : Nat} (ho : o.op = .binOp .sub 3 x y 3) (hx : a.eval x = .int .i64 p) (hy : a.eval y = .int .i64 q) (h : p = q + r) (hp : p < 9223372036854775808) : (execOp a.eval o).run Tryd.prog w = .ok (.value (.int .i64 (r : Nat))) w := by
  have := execSubI (w := w) ho hx hy (by omega) hp
  rw [show p - q = r by omega] at this
  exact this
end
end Go.Proofs.YtaiiomoajjhliaaDoor.Rou
