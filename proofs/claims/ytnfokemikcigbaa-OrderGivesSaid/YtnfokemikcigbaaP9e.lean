import Derived.Test.YtnfokemikcigbaaF9c
import Derived.Test.YtnfokemikcigbaaF9b
import Derived.Test.YtnfokemikcigbaaF9a
import Derived.Test.YtnfokemikcigbaaZ9a
import Derived.Test.YtnfokemikcigbaaP9b
import Derived.Test.YtnfokemikcigbaaV9o
namespace Go.Proofs.Ytnfokemikcigbaa.Prm
open Go.RowKit Gf8 Aes By8 Cel Cf Tap Drw
/- Stage 11's reference: find, Rank. Written by tools/mkP9e.py. -/

theorem execSlLg {o : Oper} {a : Act} {w : World} {x l : Operand} {ty : TypeId} {v vl r : Value} (ho : o.op = .slice ty x (some l) none none) (hx : a.eval x = v) (hl : a.eval l = vl)
    (hr : (Instr.sliceAt ty v (some vl) none none).run Try.prog w = .ok r w) : (execOp a.eval o).run Try.prog w = .ok (.value r) w := by
  unfold execOp
  simp only [ho, hx, hl, Option.map_some, Option.map_none, Sem.run_bind, hr, Result.andThen_ok, Sem.run_pure]
theorem sl_lIg (g len cap l : Nat) (h1 : l ≤ len) (W : World) : (Instr.sliceAt 37 (.slice (some ⟨g, 0, none⟩) len cap) (some (.int .i64 (l : Int))) none none).run Try.prog W = .ok (sliced (some ⟨g, 0, none⟩) l len cap 1) W := by
  have e1 : (l : Int) ≤ len := by omega
  obtain ⟨i, i1, _, i3, _⟩ := infoI
  simp [Instr.sliceAt, Instr.slice, run_underlying Try.underlying37, Instr.sliceBounds, run_sliceBound, sliced, h1, sizeOf, typeInfo, i1, i3]
theorem SliceI.sub {w : World} {a : Option Addr} {len cap : Nat} {p : Nat → Int} (hv : SliceI w (.slice a len cap) len p) (l h : Nat) (h1 : l ≤ h) (h2 : h ≤ len) :
    SliceI w (sliced a l h cap 1) (h - l) (fun j => p (l + j)) := by
  obtain ⟨⟨a', cap', e, e1, e2, e3⟩, hp⟩ := hv
  obtain ⟨rfl, _, rfl⟩ : a = a' ∧ len = len ∧ cap = cap' := by
    injection e with x y z
    exact ⟨x, rfl, z⟩
  refine ⟨⟨_, cap - l, rfl, by omega, by omega, fun h0 => ?_⟩, fun j hj => hp (l + j) (by omega)⟩
  obtain ⟨b, off, rfl, hb, hc⟩ := e3 (by omega)
  rw [if_neg (by omega)]
  refine ⟨b, off + l, ?_, hb, fun j hj => ?_⟩
  · simp [Addr.add]
  · rw [Nat.add_assoc]; exact hc (l + j) (by omega)
/-- Two rows of one's own, apart. -/
structure Two (V W : World) (u : Value) (nu : Nat) (fu : Nat → Int) (lv : Value) (nl : Nat) (fl : Nat → Int) : Prop where
  ru : W.ownsRow V.heap.size 3 1 u nu (intsL nu fu)
  rl : W.ownsRow V.heap.size 3 1 lv nl (intsL nl fl)
  ap : ∀ k, u.ownBlock = some k → lv.ownBlock ≠ some k
section
variable {V W W' : World} {u lv : Value} {nu nl : Nat} {fu fl : Nat → Int}
theorem Two.on (h : Two V W u nu fu lv nl fl) (b : Below W.heap.size W W') : Two V W' u nu fu lv nl fl := ⟨ownD_below h.ru b, ownD_below h.rl b, h.ap⟩
theorem Two.over {C m : Nat} {v2 : Value} {ys : List Value} (h : Two V W u nu fu lv nl fl) (hu : ∀ k, u.ownBlock = some k → k < C) (hl : ∀ k, lv.ownBlock = some k → k < C) (h2 : W.ownsRow C 3 1 v2 m ys) (gr : W.grownBy W' v2.ownBlock) : Two V W' u nu fu lv nl fl :=
  ⟨own_overB h.ru hu h2 gr, own_overB h.rl hl h2 gr, h.ap⟩
theorem Two.new {C m nl' : Nat} {v' : Value} {f' fl' : Nat → Int} (h : Two V W u nu fu lv nl fl) (hu : ∀ k, u.ownBlock = some k → k < C) (own : W.ownsRow C 3 1 v' m (intsL m f')) (hC : V.heap.size ≤ C) (em : m = nl') (ef : ∀ j, j < nl' → f' j = fl' j) : Two V W u nu fu v' nl' fl' := by
  subst em
  refine ⟨h.ru, ?_, fun k e q => ?_⟩
  · rw [← intsL_congr ef]
    exact ownD_base own hC
  · have a1 := hu k e
    have a2 := (own.lt k q).1
    omega
theorem Two.lo {g c k : Nat} (h : Two V W u nu fu (.slice (some ⟨g, 0, none⟩) nl c) nl fl) (hf : ∀ j, j < nl → -9223372036854775808 ≤ fl j ∧ fl j < 9223372036854775808) (hk : k < nl) : SliceI W (.slice (some ⟨g, 0, none⟩) k c) k fl := by
  have h2 := SliceI.sub (own_ints h.rl hf) 0 k (Nat.zero_le _) (by omega)
  rw [sliced_0, Nat.sub_zero] at h2
  exact h2.cg fun j _ => by rw [Nat.zero_add]
theorem Two.hi {g c k : Nat} (h : Two V W u nu fu (.slice (some ⟨g, 0, none⟩) nl c) nl fl) (hf : ∀ j, j < nl → -9223372036854775808 ≤ fl j ∧ fl j < 9223372036854775808) (hk : k < nl) : SliceI W (sliced (some ⟨g, 0, none⟩) (k + 1) nl c 1) (nl - (k + 1)) (fun j => fl (k + 1 + j)) :=
  SliceI.sub (own_ints h.rl hf) (k + 1) nl hk (Nat.le_refl _)
end
end Go.Proofs.Ytnfokemikcigbaa.Prm
