import Derived.Test.YtpclecbhfjalnaaV9m
namespace Go.Proofs.Ytpclecbhfjalnaa.Tap
open Go.RowKit Gf8 Aes By8 Cel Cf
/- append to a row that may bear a mark behind its cells. -/

theorem storeCells_mark (P : Program) (g o : Nat) (t : TypeId) (fr : Nat × Nat) : ∀ (vs : List Value) (i : Nat) (cur : Array Value) (w : World), w.heap[g]? = some (.cells cur t fr) → (cur.size ≤ fr.1 ∨ fr.2 = 0) → o + i + vs.length ≤ cur.size → (∀ v ∈ vs, v.oneCell' = true) →
    (storeCells ⟨g, o, none⟩ vs i).run P w = .ok () (w.setRow g (cur.toList.take (o + i) ++ vs ++ cur.toList.drop (o + i + vs.length)).toArray)
  | [], i, cur, w, hg, _, _, _ => by
    simp only [storeCells, List.append_nil, List.length_nil, Nat.add_zero, List.take_append_drop, Array.toArray_toList]
    rw [setRow_self w g cur t fr hg]
    rfl
  | v :: rest, i, cur, w, hg, hfz, hl, h1 => by
    have hi : o + i < cur.size := by simp at hl; omega
    have hadd : (⟨g, o, none⟩ : Addr).add i = ⟨g, o + i, none⟩ := by unfold Addr.add; split <;> simp_all
    have hcell : w.cell? ⟨g, o + i, none⟩ = some cur[o + i] := by simp [World.cell?, hg, hi]
    have hfro : w.frozen? ⟨g, o + i, none⟩ = false := by
      simp [World.frozen?, hg]
      omega
    have hst : (store ((⟨g, o, none⟩ : Addr).add i) v).run P w = .ok () (w.setRow g (cur.setIfInBounds (o + i) v)) := by
      rw [hadd, run_store P w _ v _ (h1 v (by simp)), hcell]
      simp [hfro, setCell_eq_setRow w g (o + i) cur t fr v hg]
    have ih := storeCells_mark P g o t fr rest (i + 1) (cur.setIfInBounds (o + i) v) (w.setRow g (cur.setIfInBounds (o + i) v)) (setRow_heap w g cur _ t _ hg) (by rw [Array.size_setIfInBounds]; exact hfz) (by simp at hl ⊢; omega) (fun x hx => h1 x (by simp [hx]))
    simp only [storeCells, Sem.run_bind, hst, Result.andThen_ok, ih, setRow_setRow]
    congr 3
    have e := list_seg_step cur.toList (o + i) v rest (by simp at hl ⊢; omega)
    simpa [Array.toList_setIfInBounds, Nat.add_assoc] using e
/-- Two lists, one behind the other. -/
def cat2 (n : Nat) (p q : Nat → Nat) : Nat → Nat := fun j => if j < n then p j else q (j - n)
theorem cells_listN {W : World} {b off n : Nat} {p : Nat → Nat} (h : ∀ j, j < n → W.cell? ⟨b, off + j, none⟩ = some (.int .u8 (p j : Nat))) : ∀ j u, (bytesL n p)[j]? = some u → W.cell? ((⟨b, off, none⟩ : Addr).add j) = some u := by
  intro j u hu
  have hj : j < n := by have := (List.getElem?_eq_some_iff.1 hu).1; simpa [bytesL] using this
  rw [Go.WideShapes.add_plain, h j hj]
  simpa [bytesL, hj] using hu
theorem bytesL_len (n : Nat) (p : Nat → Nat) : (bytesL n p).length = n := by simp [bytesL]
theorem bytesL_one (n : Nat) (p : Nat → Nat) : ∀ u ∈ bytesL n p, u.oneCell' = true := by
  intro z hz
  unfold bytesL at hz
  obtain ⟨k, _, rfl⟩ := List.mem_map.1 hz
  rfl
theorem bytesL_get (n j : Nat) (p : Nat → Nat) (h : j < n) : (bytesL n p)[j]? = some (.int .u8 (p j : Nat)) := by simp [bytesL, h]
theorem run_appM (W : World) (ty : TypeId) (B n m : Nat) (v u : Value) (p q : Nat → Nat) (h : OwnM W B v n p) (hu : SliceN W u m q) (hz : ∀ l c, u ≠ .slice none l c) (hb : n + m ≤ 200000000000000) :
    ∃ v' W', (Builtin.append_ #[22, 22] ty #[v, u]).run Try.prog W = .ok v' W' ∧ SliceN W' v' (n + m) (cat2 n p q) ∧ W.grownBy W' v.ownBlock := by
  obtain ⟨i, i1, i2, i3, i4⟩ := info5
  obtain ⟨g, cap, cur, fz, rfl, hB, hg, h1, h2, h3, h4, h5, h6⟩ := h
  obtain ⟨⟨ua, uc, rfl, u1, u2, u3⟩, u4⟩ := hu
  obtain ⟨ad, rfl⟩ : ∃ ad, ua = some ad := by
    cases ua with
    | none => exact absurd rfl (hz _ _)
    | some x => exact ⟨x, rfl⟩
  have holds : ∀ j x, (bytesL n p)[j]? = some x → W.cell? ((⟨g, 0, none⟩ : Addr).add j) = some x := cells_listN fun j hj => by
    rw [cell_of_row _ _ _ _ _ _ hg, Nat.zero_add]
    exact h4 j hj
  have hnews : ∀ j x, (bytesL m q)[j]? = some x → W.cell? (ad.add j) = some x := by
    intro j x hx
    have hj : j < m := by have := (List.getElem?_eq_some_iff.1 hx).1; rw [bytesL_len] at this; exact this
    obtain ⟨b, off, e, _, hc⟩ := u3 (by omega)
    obtain rfl : ad = ⟨b, off, none⟩ := Option.some.inj e
    exact cells_listN hc j x hx
  have hby : ∀ j, j < n + m → cat2 n p q j < 256 := fun j hj => by
    unfold cat2
    by_cases e : j < n
    · rw [if_pos e]; exact h5 j e
    · rw [if_neg e]; exact u4 _ (by omega)
  have hcat : ∀ j, j < n + m → (bytesL n p ++ bytesL m q)[j]? = some (.int .u8 (cat2 n p q j : Nat)) := fun j hj => by
    unfold cat2
    by_cases e : j < n
    · rw [if_pos e, List.getElem?_append_left (by rw [bytesL_len]; exact e), bytesL_get _ _ _ e]
    · rw [if_neg e, List.getElem?_append_right (by rw [bytesL_len]; omega), bytesL_len, bytesL_get _ _ _ (by omega)]
  by_cases hroom : n + m ≤ cap
  · have hf := run_firstCells_some (P := Try.prog) W i.size m ad m uc (bytesL m q) (by rw [bytesL_len, i3, Nat.mul_one]) hnews
    rw [i3] at hf
    have hst := storeCells_mark Try.prog g n 5 fz (bytesL m q) 0 cur W hg (by rw [h3]; exact h6) (by rw [bytesL_len, h3]; omega) (bytesL_one _ _)
    simp only [Nat.add_zero] at hst
    refine ⟨.slice (some ⟨g, 0, none⟩) (n + m) cap, W.setRow g (cur.toList.take n ++ bytesL m q ++ cur.toList.drop (n + (bytesL m q).length)).toArray, by simp [Builtin.append_, run_underlying Try.underlying22, sizeOf, typeInfo, i1, Builtin.lenOf, hroom, hf, Addr.add_lit, i3, hst], ⟨⟨_, _, rfl, hroom, by unfold maxLen at h2; omega, fun _ => ⟨g, 0, rfl, ?_, fun j hj => ?_⟩⟩, hby⟩, ⟨rfl, rfl, rfl, by simp, fun k _ hk => setRow_other W g k _ (fun e => hk (by simp [Value.ownBlock, e]))⟩⟩
    · have := (Array.getElem?_eq_some_iff.1 hg).1
      simpa using this
    · rw [cell_of_row _ _ _ _ _ _ (setRow_heap W g cur _ _ _ hg), Nat.zero_add]
      have ht : cur.toList.take n = bytesL n p := by
        apply List.ext_getElem?
        intro k
        rw [List.getElem?_take]
        by_cases e : k < n
        · rw [if_pos e, Array.getElem?_toList, h4 k e, bytesL_get _ _ _ e]
        · rw [if_neg e, List.getElem?_eq_none (by rw [bytesL_len]; omega)]
      rw [List.getElem?_toArray, ht, List.getElem?_append_left (by rw [List.length_append, bytesL_len, bytesL_len]; exact hj)]
      exact hcat j hj
  · have hr := run_append_grow (P := Try.prog) W 22 ty 5 i (.int .u8 0) Try.underlying22 i1 i2 ⟨g, 0, none⟩ n cap (bytesL n p) (by rw [bytesL_len, i3, Nat.mul_one]) holds ad m uc (bytesL m q) (by rw [bytesL_len, i3, Nat.mul_one]) hnews (by omega) (by omega) (by rw [i4]; exact grow_fits (by omega) hb)
    have hge := grownCap_ge W (n + m) cap 5
    have hcm : grownCap W (n + m) cap 5 ≤ maxLen := grownCap_le_maxLen W (n + m) cap 5 (by unfold maxLen; omega)
    refine ⟨_, _, hr, ⟨⟨_, _, rfl, hge, by unfold maxLen at hcm; omega, fun _ => ⟨W.heap.size, 0, rfl, by simp, fun j hj => ?_⟩⟩, hby⟩, ⟨rfl, rfl, rfl, by simp, fun k hk _ => Below.heap_alloc W.drew _ k hk⟩⟩
    have hh : ∀ C, (W.drew.alloc (.cells C 5)).heap[W.heap.size]? = some (.cells C 5) := fun C => heap_alloc_new W.drew _
    rw [cell_of_row _ _ _ _ _ _ (hh _), Nat.zero_add, ← Array.getElem?_toList]
    simp only [Array.toList_append]
    rw [List.getElem?_append_left (by rw [List.length_append, bytesL_len, bytesL_len]; exact hj)]
    exact hcat j hj
theorem stepAppM {ops : Array Oper} {Q : Exit → Act → World → Prop} {K : Act → World → Prop} {j : Nat} {o : Oper} {a : Act} {W : World} {s x : Operand} {B n m : Nat} {v u : Value} {p q : Nat → Nat} (hos : ops[j]? = some o) (hgd : Region.wanted o (yielded ops a.tmps) = true)
    (ho : o.op = .call { callee := .builtin .append, args := #[s, x], argTypes := #[22, 22] }) (hs : a.eval s = v) (hx : a.eval x = u) (h : OwnM W B v n p) (hu : SliceN W u m q) (hz : ∀ l c, u ≠ .slice none l c) (hb : n + m ≤ 200000000000000)
    (hK : ∀ v' W', SliceN W' v' (n + m) (cat2 n p q) → W.grownBy W' v.ownBlock → K (a.put o.dst v') W') : wpOp Try.prog ops Q j K a W := by
  obtain ⟨v', W', hr, h1, h2⟩ := run_appM W o.type B n m v u p q h hu hz hb
  refine stepV hos hgd (v := v') (w' := W') ?_ (hK v' W' h1 h2)
  unfold execOp
  simp only [ho, resolve, invoke, builtin, Sem.run_bind, Sem.run_pure, Result.andThen_ok, List.map_toArray, List.map_cons, List.map_nil, hs, hx, hr]
theorem OwnM.some {W : World} {B n : Nat} {v : Value} {p : Nat → Nat} (h : OwnM W B v n p) : ∀ l c, v ≠ .slice none l c := by
  obtain ⟨g, cap, cur, fz, rfl, _⟩ := h
  intro l c e
  cases e
/-- A row of bytes that lies higher than what was written into. -/
theorem OwnM.over {W W' : World} {B b n : Nat} {v : Value} {p : Nat → Nat} {row : Option Nat} (h : OwnM W B v n p) (hg : W.grownBy W' row) (hr : ∀ k, row = Option.some k → k < b) (hb : b ≤ B) : OwnM W' B v n p := by
  obtain ⟨g, cap, cur, fz, e, hB, h1, hrest⟩ := h
  refine ⟨g, cap, cur, fz, e, hB, ?_, hrest⟩
  rw [hg.block g (Array.getElem?_eq_some_iff.1 h1).1 (fun q => ?_)]
  · exact h1
  · have := hr g q.symm
    omega
/-- A block of another type. -/
theorem heap_over {W W' : World} {B n : Nat} {v : Value} {p : Nat → Nat} {g : Nat} {c : Array Value} {t : TypeId} {fr : Nat × Nat} (h : OwnM W B v n p) (hg : W.grownBy W' v.ownBlock) (hh : W.heap[g]? = some (.cells c t fr)) (ht : t ≠ 5) : W'.heap[g]? = some (.cells c t fr) := by
  obtain ⟨k, cap, cur, fz, rfl, hB, h1, _⟩ := h
  rw [hg.block g (Array.getElem?_eq_some_iff.1 hh).1 (fun q => ?_)]
  · exact hh
  · obtain rfl : g = k := by simpa [Value.ownBlock] using q
    rw [h1] at hh
    injection hh with hh
    injection hh with _ hh _
    exact ht hh.symm
theorem OwnM.row {W : World} {B n : Nat} {v : Value} {p : Nat → Nat} (h : OwnM W B v n p) : ∀ k, v.ownBlock = Option.some k → B ≤ k ∧ k < W.heap.size := by
  obtain ⟨g, cap, cur, fz, rfl, hB, h1, _⟩ := h
  intro k hk
  obtain rfl : g = k := by simpa [Value.ownBlock] using hk
  exact ⟨hB, (Array.getElem?_eq_some_iff.1 h1).1⟩
theorem shp9 {W : World} {v : Value} {n : Nat} {p : Nat → Nat} (h : SliceN W v n p) : ∃ a c, v = .slice a n c := by
  obtain ⟨a, c, e, _⟩ := h.shape
  exact ⟨a, c, e⟩
section
variable {o : Oper} {a : Act} {w : World}
theorem execLeN {x y : Operand} {p q : Nat} (ho : o.op = .binOp .leq 3 x y 3) (hx : a.eval x = .int .i64 (p : Int)) (hy : a.eval y = .int .i64 (q : Int)) : (execOp a.eval o).run Try.prog w = .ok (.value (.bool (decide (p ≤ q)))) w := by
  unfold execOp
  simp only [ho, hx, hy]
  by_cases h : p ≤ q
  · simp [go_sem, h]
  · simp [go_sem, h]
theorem execNeB {x y : Operand} {p q : Bool} (ho : o.op = .binOp .neq 4 x y 4) (hx : a.eval x = .bool p) (hy : a.eval y = .bool q) : (execOp a.eval o).run Try.prog w = .ok (.value (.bool (p != q))) w := by
  unfold execOp
  simp only [ho, hx, hy]
  cases p <;> cases q <;> simp [go_sem]
end
theorem take_no (p : Nat → Nat) (l at' n : Nat) (V : World) (h : l < at' + n) (hat : at' ≤ l) (hl : l ≤ 140737488351232) (hp : ∀ j, j < l → p j < 256) :
    Calls Try.prog 11 #[.agg (tpC p l at'), .int .i64 (n : Int)] V fun e w' => e = .returned (.tuple #[.slice none 0 0, .agg (tpC p 0 0), .int .i64 ((3 : Nat) : Int)]) ∧ Below V.heap.size V w' := by
  have E : tkE l at' (n : Int) = 3 := by unfold tkE; rw [if_neg (by omega), if_pos (by omega)]
  refine (take_any p l at' n V hat hl hp).mono ?_
  unfold tkA tkN
  rw [E]
  rintro e w' ⟨r, rfl, _, h1, h2⟩
  obtain rfl := h1 (by decide)
  exact ⟨rfl, h2⟩
end Go.Proofs.Ytpclecbhfjalnaa.Tap
