import Derived.Test.YtmjpneaccjlpkaaP9h
namespace Go.Proofs.Ytmjpneaccjlpkaa.Prm
open Go.RowKit Gf8 Aes By8 Cel Cf Tap Drw
/- The law's three; lists of strings; PermGroup over any Impl, ImplS. Written by tools/mkP9k.py. -/
structure SliceS (w : World) (v : Value) (len : Nat) (s : Nat → ByteArray) : Prop where
 shape : ∃ a cap, v = .slice a len cap ∧ len ≤ cap ∧ cap ≤ maxLen ∧ (0 < len → ∃ b off, a = some ⟨b, off, none⟩ ∧ b < w.heap.size ∧ ∀ j, j < len → w.cell? ⟨b, off + j, none⟩ = some (.string (s j)))
theorem SliceS.on {w w' : World} {v : Value} {len : Nat} {s : Nat → ByteArray} (h : SliceS w v len s) (hb : Below w.heap.size w w') : SliceS w' v len s := by
 obtain ⟨a, cap, e, h1, h2, h3⟩ := h.shape
 refine ⟨⟨a, cap, e, h1, h2, fun h0 => ?_⟩⟩
 obtain ⟨b, off, e1, e2, e3⟩ := h3 h0
 exact ⟨b, off, e1, Nat.lt_of_lt_of_le e2 hb.size, fun j hj => by rw [cell_below hb e2]; exact e3 j hj⟩
theorem SliceS.shp {w : World} {v : Value} {len : Nat} {s : Nat → ByteArray} (h : SliceS w v len s) : ∃ g c, v = .slice g len c := by
 obtain ⟨a, c, e, _⟩ := h.shape
 exact ⟨a, c, e⟩
def strsL (n : Nat) (s : Nat → ByteArray) : List Value := (List.range n).map fun j => .string (s j)
theorem own_strs {W : World} {B n : Nat} {v : Value} {s : Nat → ByteArray} (h : W.ownsRow B 9 1 v n (strsL n s)) : SliceS W v n s := by
 rcases h.2 with ⟨rfl, rfl⟩ | ⟨g, cap, cur, rfl, _, hg, h1, h2, h3, h4⟩
 ·exact ⟨⟨_, _, rfl, Nat.le_refl _, Nat.zero_le _, fun h => by omega⟩⟩
 ·refine ⟨⟨_, _, rfl, h1, h2, fun _ => ⟨g, 0, rfl, (Array.getElem?_eq_some_iff.1 hg).1, fun j hj => ?_⟩⟩⟩
  rw [cell_of_row _ _ _ _ _ _ hg, Nat.zero_add, ← Array.getElem?_toList]
  have h5 : (cur.toList.take (n * 1))[j]? = some (.string (s j)) := by rw [h4]; simp [strsL, hj]
  rw [List.getElem?_take_of_lt (by omega)] at h5
  exact h5
section
variable {o : Oper} {a : Act} {w : World}
theorem execLenS {x : Operand} {v : Value} {len : Nat} (ho : o.op = .call { callee := .builtin .len, args := #[x], argTypes := #[32] }) (hx : a.eval x = v) (hs : ∃ g c, v = .slice g len c) : (execOp a.eval o).run Try.prog w = .ok (.value (.int .i64 (len : Int))) w := by
 obtain ⟨g, c, rfl⟩ := hs
 unfold execOp
 simp only [ho, resolve, invoke, builtin, List.map_toArray, List.map_cons, List.map_nil, hx]
 simp [go_sem]
theorem execIdxS {x i : Operand} {b off n cap k : Nat} (ho : o.op = .indexAddr 32 x i) (hx : a.eval x = .slice (some ⟨b, off, none⟩) n cap) (hi : a.eval i = .int .i64 (k : Int)) (hk : k < n) : (execOp a.eval o).run Try.prog w = .ok (.value (.pointer (some ⟨b, off + k, none⟩))) w := by
 have h1 : (k : Int) < n := by omega
 unfold execOp
 simp only [ho, hx, hi]
 simp [go_sem, h1, Addr.add_mid]
end
structure ImplS : Prop where
 applyS : ∀ (f : Nat → Int) (s : Nat → ByteArray) (n m : Nat) (v u : Value) (V : World), SliceI V v n f → n ≤ 17592186044416 → SliceS V u m s → m ≤ 17592186044416 →
  Calls Try.prog 27 #[v, u] V fun e w' => ∃ r, e = .returned (.tuple #[r, .int .i64 ((apE f n m : Nat) : Int)]) ∧ w'.ownsRow V.heap.size 9 1 r (zl (apE f n m) n) (strsL (zl (apE f n m) n) (fun j => s (f j).toNat)) ∧ Below V.heap.size V w'
end Go.Proofs.Ytmjpneaccjlpkaa.Prm
