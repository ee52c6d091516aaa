import Derived.Test.YtpclecbhfjalnaaG9j
import Derived.Test.YtpclecbhfjalnaaG9k
namespace Go.Proofs.Ytpclecbhfjalnaa.Drw
open Go.RowKit Gf8 Aes By8 Cel Cf Tap
/- What DrawPieces needs: append of lists of ints, and draws in pieces. -/

theorem intsL_app (n m : Nat) (f g : Nat → Int) : intsL n f ++ intsL m g = intsL (n + m) (catI n f g) := by
  unfold intsL
  rw [List.range_add, List.map_append, List.map_map]
  congr 1
  · exact List.map_congr_left fun j hj => by rw [catI_lo (List.mem_range.1 hj)]
  · exact List.map_congr_left fun j _ => by simp only [Function.comp]; rw [catI_hi]
theorem intsL_one (n : Nat) (f : Nat → Int) : ∀ u ∈ intsL n f, u.oneCell' = true := fun u hu => by
  obtain ⟨j, _, rfl⟩ := List.mem_map.1 hu
  rfl
theorem execBs0I {o : Oper} {a : Act} {w : World} (ho : o.op = .buildSlice 23 0 #[]) : (execOp a.eval o).run Try.prog w = .ok (.value (.slice (some ⟨w.heap.size, 0, none⟩) 0 0)) (w.alloc (.cells #[] 3)) := by
  unfold execOp
  simp only [ho]
  simp [go_sem]
theorem own_noneI (W : World) (f : Nat → Int) : (W.alloc (.cells #[] 3)).ownsRow W.heap.size 3 1 (.slice (some ⟨W.heap.size, 0, none⟩) 0 0) 0 (intsL 0 f) :=
  ⟨rfl, Or.inr ⟨W.heap.size, 0, _, rfl, Nat.le_refl _, heapNew W _, Nat.zero_le _, Nat.zero_le _, by simp, rfl⟩⟩
theorem own_nilI {W : World} {B n : Nat} {t : TypeId} {v : Value} {xs : List Value} (h : W.ownsRow B t 1 v n xs) : ∀ l c, v = .slice none l c → c = 0 := by
  intro l c e
  rcases h.2 with ⟨rfl, _⟩ | ⟨g, cap, cur, rfl, _⟩
  · injection e with _ _ e3; exact e3.symm
  · injection e with e1; cases e1
/-- append of ints, nil or not. -/
theorem stepAppIs {ops : Array Oper} {Q : Exit → Act → World → Prop} {K : Act → World → Prop} {j : Nat} {o : Oper} {a : Act} {W : World} {s x : Operand} {B n m : Nat} {v u : Value} {f g : Nat → Int} (hos : ops[j]? = some o) (hgd : Region.wanted o (yielded ops a.tmps) = true)
    (ho : o.op = .call { callee := .builtin .append, args := #[s, x], argTypes := #[23, 23] }) (hs : a.eval s = v) (hx : a.eval x = u) (hown : W.ownsRow B 3 1 v n (intsL n f)) (hu : SliceI W u m g) (hnil : ∀ l c, u = .slice none l c → c = 0) (hn : n + m ≤ 17592186044416) (hB : B ≤ W.heap.size)
    (hK : ∀ v' W', W'.ownsRow B 3 1 v' (n + m) (intsL (n + m) (catI n f g)) → W.grownBy W' v.ownBlock → K (a.put o.dst v') W') : wpOp Try.prog ops Q j K a W := by
  obtain ⟨i, i1, i2, i3, i4⟩ := infoI
  obtain ⟨⟨ao, cap, rfl, _, _, hc⟩, _⟩ := hu
  cases ao with
  | none =>
    have hm : m = 0 := by
      rcases Nat.eq_zero_or_pos m with e | e
      · exact e
      · obtain ⟨_, _, e', _⟩ := hc e
        cases e'
    subst hm
    have hcap := hnil _ _ rfl
    subst hcap
    have hr := run_append_owned_none (P := Try.prog) W B 23 o.type 3 i 1 Try.underlying23 i1 v n (intsL n f) hown
    refine stepV hos hgd (v := v) (w' := W) ?_ (hK v W (by rw [Nat.add_zero, intsL_congr fun j hj => catI_lo hj]; exact hown) ⟨rfl, rfl, rfl, Nat.le_refl _, fun _ _ _ => rfl⟩)
    unfold execOp
    simp only [ho, resolve, invoke, builtin, Sem.run_bind, Sem.run_pure, Result.andThen_ok, List.map_toArray, List.map_cons, List.map_nil, hs, hx, hr]
  | some ad =>
    obtain ⟨v', W', run, q1, q2⟩ := execAppO (W := W) (m := m) (c := cap) (ad := ad) (news := intsL m g) ho Try.underlying23 i1 i2 i3 i4 rfl (by decide) hs hown hx (by rw [intsL_len, Nat.mul_one]) (fun j z hz => by
      have hj : j < m := by have := (List.getElem?_eq_some_iff.1 hz).1; rw [intsL_len] at this; exact this
      obtain ⟨b, off, e, _, e3⟩ := hc (by omega)
      obtain rfl : ad = ⟨b, off, none⟩ := Option.some.inj e
      rw [Go.WideShapes.add_plain, e3 j hj]
      rw [intsL_get hj] at hz
      exact hz) (intsL_one _ _) (by unfold maxLen; omega) (by omega) hB
    rw [intsL_app] at q1
    exact stepV hos hgd run (hK v' W' q1 q2)
theorem catI_fits {n m : Nat} {f g : Nat → Int} (hf : ∀ j, j < n → -9223372036854775808 ≤ f j ∧ f j < 9223372036854775808) (hg : ∀ j, j < m → -9223372036854775808 ≤ g j ∧ g j < 9223372036854775808) : ∀ j, j < n + m → -9223372036854775808 ≤ catI n f g j ∧ catI n f g j < 9223372036854775808 := fun j hj => by
  unfold catI
  by_cases h : j < n
  · rw [if_pos h]; exact hf j h
  · rw [if_neg h]; exact hg _ (by omega)
/-- The list [0, 255, 7]. -/
def l7 : Nat → Nat := fun j => if j = 0 then 0 else if j = 1 then 255 else 7
theorem execLit7 {o : Oper} {a : Act} {w : World} (ho : o.op = .buildSlice 22 3 #[(0, .const (.int .u8 0)), (1, .const (.int .u8 255)), (2, .const (.int .u8 7))]) : (execOp a.eval o).run Try.prog w = .ok (.value (.slice (some ⟨w.heap.size, 0, none⟩) 3 3)) (w.alloc (.cells #[.int .u8 0, .int .u8 255, .int .u8 7] 5)) := by
  unfold execOp
  simp only [ho]
  simp [go_sem]
theorem slice7 (V : World) : SliceN (V.alloc (.cells #[.int .u8 0, .int .u8 255, .int .u8 7] 5)) (.slice (some ⟨V.heap.size, 0, none⟩) 3 3) 3 l7 :=
  lit_slice (heapNew V _) (fun j hj => by
    match j, hj with
    | 0, _ => rfl
    | 1, _ => rfl
    | 2, _ => rfl
    | k + 3, h => omega) (fun j hj => by
    unfold l7
    by_cases h : j = 0
    · rw [if_pos h]; omega
    · rw [if_neg h]
      by_cases h1 : j = 1
      · rw [if_pos h1]; omega
      · rw [if_neg h1]; omega) (by omega)

theorem slice_nilN {V : World} {p : Nat → Nat} : SliceN V (.slice none 0 0) 0 p := ⟨⟨_, _, rfl, Nat.le_refl _, by omega, fun h => by omega⟩, fun j hj => by omega⟩
theorem own_cat0 {W : World} {B m : Nat} {v : Value} {f g : Nat → Int} (h : W.ownsRow B 3 1 v (0 + m) (intsL (0 + m) (catI 0 f g))) : W.ownsRow B 3 1 v m (intsL m g) := by
  rw [Nat.zero_add] at h
  rw [intsL_congr (f := g) (g := catI 0 f g) fun j _ => by unfold catI; rw [if_neg (by omega), Nat.sub_zero]]
  exact h
theorem own_z5 {W : World} {B m : Nat} {v : Value} {p : Nat → Nat} (h : W.ownsRow B 5 1 v (0 + m) (bytesL (0 + m) p)) : W.ownsRow B 5 1 v m (bytesL m p) := by
  rw [Nat.zero_add] at h
  exact h
theorem cat2_lo {n j : Nat} {p q : Nat → Nat} (h : j < n) : cat2 n p q j = p j := if_pos h
theorem cat2_hi {n j : Nat} {p q : Nat → Nat} : cat2 n p q (n + j) = q j := by unfold cat2; rw [if_neg (by omega), Nat.add_sub_cancel_left]
theorem cat7_fits {l : Nat} {p : Nat → Nat} (hp : ∀ j, j < l → p j < 256) : ∀ j, j < l + 3 → cat2 l p l7 j < 256 := fun j hj => by
  by_cases h : j < l
  · rw [cat2_lo h]; exact hp j h
  · obtain ⟨x, rfl⟩ : ∃ x, j = l + x := ⟨j - l, by omega⟩
    rw [cat2_hi]
    unfold l7
    by_cases h : x = 0
    · rw [if_pos h]; omega
    · rw [if_neg h]
      by_cases h1 : x = 1
      · rw [if_pos h1]; omega
      · rw [if_neg h1]; omega
section
variable {p : Nat → Nat} {l n m : Nat} {a b : Nat → Int}
theorem allE_zero : allE p l a n = 0 ↔ anyB a n = false ∧ okA p l a n := by
  unfold allE
  constructor
  · intro h
    by_cases h1 : anyB a n = true
    · rw [if_pos h1] at h; omega
    · rw [if_neg h1] at h
      by_cases h2 : okB p l a n = true
      · exact ⟨by simpa using h1, okB_iff.1 h2⟩
      · rw [if_neg h2] at h; omega
  · rintro ⟨h1, h2⟩
    rw [if_neg (by simp [h1]), if_pos (okB_iff.2 h2)]
theorem allE_three (h1 : anyB a n = false) (h2 : ¬ okA p l a n) : allE p l a n = 3 := by
  unfold allE
  rw [if_neg (by simp [h1]), if_neg fun q => h2 (okB_iff.1 q)]
theorem allE_two (h : anyB a n = true) : allE p l a n = 2 := if_pos h
theorem allE_any (h : allE p l a n ≠ 2) : anyB a n = false := by
  cases e : anyB a n with
  | false => rfl
  | true => exact absurd (allE_two e) h
/-- The first piece answers an error. -/
theorem pieces_bad (he : allE p l a n ≠ 0) (q : Nat → Nat) (k : Nat) (hne : allE p l (catI n a b) (n + m) ≠ allE p l a n) : allE p l (catI n a b) (n + m) = 2 ∧ allE q k b m = 2 := by
  cases hb : anyB b m with
  | true => exact ⟨allE_two (by rw [anyB_cat, hb, Bool.or_true]), allE_two hb⟩
  | false =>
    exfalso
    apply hne
    cases ha : anyB a n with
    | true => rw [allE_two ha, allE_two (by rw [anyB_cat, ha, Bool.true_or])]
    | false =>
      have h1 : ¬ okA p l a n := fun h => he (allE_zero.2 ⟨ha, h⟩)
      rw [allE_three ha h1, allE_three (by rw [anyB_cat, ha, hb]; rfl) fun h => h1 (okA_lo.1 fun i hi => h i (by omega))]
/-- The second piece answers an error. -/
theorem pieces_bad2 (he : allE p l a n = 0) (h2 : allE (fun j => p (plA p l a n + j)) (l - plA p l a n) b m ≠ 0) : allE p l (catI n a b) (n + m) = allE (fun j => p (plA p l a n + j)) (l - plA p l a n) b m := by
  obtain ⟨ha, ho⟩ := allE_zero.1 he
  cases hb : anyB b m with
  | true => rw [allE_two hb, allE_two (by rw [anyB_cat, hb, Bool.or_true])]
  | false =>
    have h3 : ¬ okA (fun j => p (plA p l a n + j)) (l - plA p l a n) b m := fun h => h2 (allE_zero.2 ⟨hb, h⟩)
    rw [allE_three hb h3, allE_three (by rw [anyB_cat, ha, hb]; rfl) fun h => h3 ((cat_hi _ rfl).1 h).1]
/-- Both answer OK. -/
theorem pieces_ok (he : allE p l a n = 0) (h2 : allE (fun j => p (plA p l a n + j)) (l - plA p l a n) b m = 0) : allE p l (catI n a b) (n + m) = 0 ∧ plA p l (catI n a b) (n + m) = plA p l a n + plA (fun j => p (plA p l a n + j)) (l - plA p l a n) b m ∧
    ∀ i, i < n + m → ((dA p l (catI n a b) i : Nat) : Int) = catI n (fun i => (dA p l a i : Int)) (fun i => (dA (fun j => p (plA p l a n + j)) (l - plA p l a n) b i : Int)) i := by
  obtain ⟨ha, ho⟩ := allE_zero.1 he
  obtain ⟨hb, ho2⟩ := allE_zero.1 h2
  obtain ⟨h1, h3⟩ := (cat_hi _ rfl (k := m)).2 ho ho2
  refine ⟨allE_zero.2 ⟨by rw [anyB_cat, ha, hb]; rfl, h1⟩, h3, fun i hi => ?_⟩
  by_cases h : i < n
  · rw [catI_lo h, dA_lo h]
  · obtain ⟨x, rfl⟩ : ∃ x, i = n + x := ⟨i - n, by omega⟩
    rw [catI_hi, dA_hi _ rfl h1 (by omega)]
/-- Other bytes behind those that are read. -/
theorem all_like (he : allE p l a n = 0) {q : Nat → Nat} {l' : Nat} (hq : ∀ j, j < plA p l a n → q j = p j) (hl : plA p l a n ≤ l') : allE q l' a n = 0 ∧ plA q l' a n = plA p l a n ∧ ∀ i, i < n → dA q l' a i = dA p l a i := by
  obtain ⟨ha, ho⟩ := allE_zero.1 he
  obtain ⟨h1, h2, h3⟩ := okA_like ho hq hl
  exact ⟨allE_zero.2 ⟨ha, h1⟩, h2, h3⟩
end
end Go.Proofs.Ytpclecbhfjalnaa.Drw
