import Derived.Test.YtnfokemikcigbaaM9c
import Derived.Lib.SliceRun
namespace Go.Proofs.Ytnfokemikcigbaa.Prm
open Go.RowKit Gf8 Aes By8 Cel Cf Tap Drw
/- Package perm as it landed: slices.Delete of ints, Unrank. Written by tools/mkM9d.py. -/

theorem sliced_some (A : Addr) (l h m : Nat) : ∃ ad c, sliced (some A) l h m 1 = .slice (some ad) (h - l) c := by
  unfold sliced
  by_cases q : m = l
  · rw [if_pos q]; exact ⟨_, _, rfl⟩
  · rw [if_neg q]; exact ⟨_, _, rfl⟩
section
variable {o : Oper} {a : Act} {w : World}
end
theorem own_takeI {W : World} {B n i g c : Nat} {f : Nat → Int} (h : W.ownsRow B 3 1 (.slice (some ⟨g, 0, none⟩) n c) n (intsL n f)) (hi : i ≤ n) : W.ownsRow B 3 1 (.slice (some ⟨g, 0, none⟩) i c) i (intsL i f) := by
  refine ⟨by rw [intsL_len, Nat.mul_one], ?_⟩
  rcases h.2 with ⟨e, _⟩ | ⟨g', cap', cur, e, hB, hg, h1, h2, h3, h4⟩
  · cases e
  · injection e with e1 e2 e3
    injection e1 with e1
    injection e1 with e1 _ _
    subst e1
    subst e3
    refine Or.inr ⟨g, c, cur, rfl, hB, hg, by omega, h2, h3, ?_⟩
    apply List.ext_getElem?
    intro j
    by_cases hj : j < i
    · have h5 : (cur.toList.take (n * 1))[j]? = (intsL n f)[j]? := by rw [h4]
      rw [List.getElem?_take_of_lt (by omega), intsL_get (by omega)] at h5
      rw [List.getElem?_take_of_lt (by omega), intsL_get hj]
      exact h5
    · rw [List.getElem?_eq_none (by simp; omega), List.getElem?_eq_none (by rw [intsL_len]; omega)]
theorem del_cat (f : Nat → Int) (I j : Nat) : catI I f (fun j => f (I + 1 + j)) j = (fun j => if j < I then f j else f (j + 1)) j := by
  unfold catI
  by_cases h : j < I
  · rw [if_pos h]; exact (if_pos h).symm
  · rw [if_neg h]
    show f (I + 1 + (j - I)) = if j < I then f j else f (j + 1)
    rw [if_neg h, show I + 1 + (j - I) = j + 1 by omega]
/-- append within a row's room: where the answer lies is known. -/
theorem stepAppD {ops : Array Oper} {Q : Exit → Act → World → Prop} {K : Act → World → Prop} {j : Nat} {o : Oper} {a : Act} {W : World} {s x : Operand} {B i m g c N : Nat} {u : Value} {f q F : Nat → Int} (hos : ops[j]? = some o) (hgd : Region.wanted o (yielded ops a.tmps) = true)
    (ho : o.op = .call { callee := .builtin .append, args := #[s, x], argTypes := #[37, 37] }) (hs : a.eval s = .slice (some ⟨g, 0, none⟩) i c) (hx : a.eval x = u) (hown : W.ownsRow B 3 1 (.slice (some ⟨g, 0, none⟩) i c) i (intsL i f)) (hu : SliceI W u m q) (hsome : ∃ ad c', u = .slice (some ad) m c')
    (hN : i + m = N) (hroom : N ≤ c) (hn : N ≤ 17592186044416) (hF : ∀ j, j < N → catI i f q j = F j) (hB : B ≤ W.heap.size)
    (hK : ∀ W', W'.ownsRow B 3 1 (.slice (some ⟨g, 0, none⟩) N c) N (intsL N F) → W.grownBy W' (some g) → K (a.put o.dst (.slice (some ⟨g, 0, none⟩) N c)) W') : wpOp Try.prog ops Q j K a W := by
  subst hN
  obtain ⟨t, i1, i2, i3, i4⟩ := infoI
  obtain ⟨ad, c', rfl⟩ := hsome
  obtain ⟨⟨ao, cap, e, _, _, hc⟩, _⟩ := hu
  injection e with ea _ _
  subst ea
  have hnews : ∀ j z, (intsL m q)[j]? = some z → W.cell? (ad.add j) = some z := fun j z hz => by
    have hj : j < m := by have := (List.getElem?_eq_some_iff.1 hz).1; rw [intsL_len] at this; exact this
    obtain ⟨b, off, e, _, e3⟩ := hc (by omega)
    obtain rfl : ad = ⟨b, off, none⟩ := Option.some.inj e
    rw [Go.WideShapes.add_plain, e3 j hj]
    rw [intsL_get hj] at hz
    exact hz
  obtain ⟨v', W', run, q1, q2⟩ := execAppO (W := W) (m := m) (c := c') (ad := ad) (news := intsL m q) ho Try.underlying37 i1 i2 i3 i4 rfl (by decide) hs hown hx (by rw [intsL_len, Nat.mul_one]) hnews (intsL_one _ _) (by unfold maxLen; omega) (by omega) hB
  have hown2 := hown.2
  rcases hown2 with ⟨e, _⟩ | ⟨g', cap', cur, e, _, hg', hnc, hcm, hcs, _⟩
  · cases e
  · injection e with e1 e2 e3
    injection e1 with e1
    injection e1 with e1 _ _
    subst e1
    subst e3
    obtain ⟨W2, hr⟩ : ∃ W2, (Builtin.append_ #[37, 37] o.type #[.slice (some ⟨g, 0, none⟩) i c, .slice (some ad) m c']).run Try.prog W = .ok (.slice (some ⟨g, 0, none⟩) (i + m) c) W2 := ⟨_, run_append_room (P := Try.prog) W 37 o.type 3 t Try.underlying37 i1 g i c cur hg' ad m c' (intsL m q) (by rw [intsL_len, i3, Nat.mul_one]) hnews (intsL_one _ _) hroom (by rw [hcs, i3, intsL_len]; omega)⟩
    have r3 : (execOp a.eval o).run Try.prog W = .ok (.value (.slice (some ⟨g, 0, none⟩) (i + m) c)) W2 := by
      unfold execOp
      simp only [ho, resolve, invoke, builtin, Sem.run_bind, Sem.run_pure, Result.andThen_ok, List.map_toArray, List.map_cons, List.map_nil, hs, hx, hr]
    have r4 := run.symm.trans r3
    injection r4 with e1 e2
    injection e1 with e1
    subst e1
    rw [intsL_app, intsL_congr hF] at q1
    exact stepV hos hgd run (hK W' q1 q2)
section
variable {V W W' : World} {lv lw : Value} {nu nl nl' g gu cu : Nat} {fu fu' fl fl' : Nat → Int} {k : Nat} {z : Value}
theorem Two.put (h : Two V W (.slice (some ⟨gu, 0, none⟩) nu cu) nu fu lv nl fl) (own : (W.setCell ⟨gu, k, none⟩ z).ownsRow V.heap.size 3 1 (.slice (some ⟨gu, 0, none⟩) nu cu) nu (intsL nu fu')) : Two V (W.setCell ⟨gu, k, none⟩ z) (.slice (some ⟨gu, 0, none⟩) nu cu) nu fu' lv nl fl :=
  ⟨own, own_offB h.rl (h.ap gu rfl), h.ap⟩
theorem Two.del {u : Value} {c : Nat} (h : Two V W u nu fu (.slice (some ⟨g, 0, none⟩) nl c) nl fl) (own : W'.ownsRow V.heap.size 3 1 (.slice (some ⟨g, 0, none⟩) nl' c) nl' (intsL nl' fl')) (gr : W.grownBy W' (some g)) : Two V W' u nu fu (.slice (some ⟨g, 0, none⟩) nl' c) nl' fl' :=
  ⟨ownW_grown h.ru gr (fun k q e => h.ap k q e), own, fun k q e => h.ap k q e⟩
end
end Go.Proofs.Ytnfokemikcigbaa.Prm
