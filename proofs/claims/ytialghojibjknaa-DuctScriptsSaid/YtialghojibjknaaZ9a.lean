import Derived.Test.YtialghojibjknaaG9d
import Derived.Test.YtialghojibjknaaV9n
namespace Go.Proofs.Ytialghojibjknaa.Drw
open Go.RowKit Gf8 Aes By8 Cel Cf Tap
/- Lists of ints: rows of one's own, what stays, append, make; pieces of code. General: it lies at any seat with []int and []uint8. -/

theorem ownD_below {W W' : World} {B n : Nat} {v : Value} {xs : List Value} {t : TypeId} {s : Nat} (h : W.ownsRow B t s v n xs) (hb : Below W.heap.size W W') : W'.ownsRow B t s v n xs := by
  refine ⟨h.1, ?_⟩
  rcases h.2 with h | ⟨g, cap, cur, e, hB, hg, hr⟩
  · exact Or.inl h
  · exact Or.inr ⟨g, cap, cur, e, hB, on9 hg hb, hr⟩
theorem ownD_base {W : World} {B C t s n : Nat} {v : Value} {xs : List Value} (h : W.ownsRow C t s v n xs) (hB : B ≤ C) : W.ownsRow B t s v n xs := by
  refine ⟨h.1, ?_⟩
  rcases h.2 with h | ⟨g, cap, cur, e, hC, h1⟩
  · exact Or.inl h
  · exact Or.inr ⟨g, cap, cur, e, Nat.le_trans hB hC, h1⟩
theorem results_tmp2 {fn : Func} {t u : Tmp} (h : fn.results = #[.tmp t, .tmp u]) (tmps : Array Value) (P : Program) (w : World) : (results fn tmps).run P w = .ok (.tuple #[tmps.getD t undef, tmps.getD u undef]) w := by
  simp [results, h]
theorem ownL_some9 {W : World} {B m : Nat} {v : Value} {xs : List Value} {t : TypeId} {s : Nat} (h : W.ownsRow B t s v m xs) (hm : 0 < m) : ∃ g c, v = .slice (some ⟨g, 0, none⟩) m c ∧ B ≤ g ∧ g < W.heap.size := by
  rcases h.2 with ⟨_, e⟩ | ⟨g, cap, cur, e, hB, hg, _⟩
  · omega
  · exact ⟨g, cap, e, hB, (Array.getElem?_eq_some_iff.1 hg).1⟩
theorem intsL_app (n m : Nat) (f g : Nat → Int) : intsL n f ++ intsL m g = intsL (n + m) (catI n f g) := by
  unfold intsL
  rw [List.range_add, List.map_append, List.map_map]
  congr 1
  · exact List.map_congr_left fun j hj => by rw [catI_lo (List.mem_range.1 hj)]
  · exact List.map_congr_left fun j _ => by simp only [Function.comp]; rw [catI_hi]
theorem intsL_one (n : Nat) (f : Nat → Int) : ∀ u ∈ intsL n f, u.oneCell' = true := fun u hu => by
  obtain ⟨j, _, rfl⟩ := List.mem_map.1 hu
  rfl
/-- append of ints, nil or not. -/
theorem stepAppIs {ops : Array Oper} {Q : Exit → Act → World → Prop} {K : Act → World → Prop} {j : Nat} {o : Oper} {a : Act} {W : World} {s x : Operand} {B n m : Nat} {v u : Value} {f g : Nat → Int} (hos : ops[j]? = some o) (hgd : Region.wanted o (yielded ops a.tmps) = true)
    (ho : o.op = .call { callee := .builtin .append, args := #[s, x], argTypes := #[30, 30] }) (hs : a.eval s = v) (hx : a.eval x = u) (hown : W.ownsRow B 3 1 v n (intsL n f)) (hu : SliceI W u m g) (hnil : ∀ l c, u = .slice none l c → c = 0) (hn : n + m ≤ 17592186044416) (hB : B ≤ W.heap.size)
    (hK : ∀ v' W', W'.ownsRow B 3 1 v' (n + m) (intsL (n + m) (catI n f g)) → W.grownBy W' v.ownBlock → K (a.put o.dst v') W') : wpOp Try.prog ops Q j K a W := by
  obtain ⟨i, i1, i2, i3, i4⟩ := infoI
  obtain ⟨⟨ao, cap, rfl, _, _, hc⟩, _⟩ := hu
  cases ao with
  | none =>
    have hm : m = 0 := by
      rcases Nat.eq_zero_or_pos m with e | e
      · exact e
      · obtain ⟨_, _, e', _⟩ := hc e
        cases e'
    subst hm
    have hcap := hnil _ _ rfl
    subst hcap
    have hr := run_append_owned_none (P := Try.prog) W B 30 o.type 3 i 1 Try.underlying30 i1 v n (intsL n f) hown
    refine stepV hos hgd (v := v) (w' := W) ?_ (hK v W (by rw [Nat.add_zero, intsL_congr fun j hj => catI_lo hj]; exact hown) ⟨rfl, rfl, rfl, Nat.le_refl _, fun _ _ _ => rfl⟩)
    unfold execOp
    simp only [ho, resolve, invoke, builtin, Sem.run_bind, Sem.run_pure, Result.andThen_ok, List.map_toArray, List.map_cons, List.map_nil, hs, hx, hr]
  | some ad =>
    obtain ⟨v', W', run, q1, q2⟩ := execAppO (W := W) (m := m) (c := cap) (ad := ad) (news := intsL m g) ho Try.underlying30 i1 i2 i3 i4 rfl (by decide) hs hown hx (by rw [intsL_len, Nat.mul_one]) (fun j z hz => by
      have hj : j < m := by have := (List.getElem?_eq_some_iff.1 hz).1; rw [intsL_len] at this; exact this
      obtain ⟨b, off, e, _, e3⟩ := hc (by omega)
      obtain rfl : ad = ⟨b, off, none⟩ := Option.some.inj e
      rw [Go.WideShapes.add_plain, e3 j hj]
      rw [intsL_get hj] at hz
      exact hz) (intsL_one _ _) (by unfold maxLen; omega) (by omega) hB
    rw [intsL_app] at q1
    exact stepV hos hgd run (hK v' W' q1 q2)
def leadR : Code → Nat → Bool
  | .seq x _, k => leadR x k
  | .region id _ _, k => Nat.beq id k
  | _, _ => false
theorem own_cap {W : World} {B n g c : Nat} {t : TypeId} {xs : List Value} (h : W.ownsRow B t 1 (.slice (some ⟨g, 0, none⟩) n c) n xs) : n ≤ c := by
  rcases h.2 with ⟨e, _⟩ | ⟨g', cap', cur, e, _, _, h1, _⟩
  · cases e
  · injection e with _ _ e3
    omega
theorem own_overB {W W' : World} {B n s C m s' : Nat} {t u : TypeId} {v v2 : Value} {xs ys : List Value} (h : W.ownsRow B t s v n xs) (hv : ∀ k, v.ownBlock = some k → k < C) (h2 : W.ownsRow C u s' v2 m ys) (gr : W.grownBy W' v2.ownBlock) : W'.ownsRow B t s v n xs :=
  ownW_grown h gr fun k e q => by
    have a1 := hv k e
    have a2 := (h2.lt k q).1
    omega
end Go.Proofs.Ytialghojibjknaa.Drw
