import Derived.Test.YtpclecbhfjalnaaV9n
namespace Go.Proofs.Ytpclecbhfjalnaa.Drw
open Go.RowKit Gf8 Aes By8 Cel Cf Tap
/- append to a row of bytes that may bear a mark: what comes of it is such a row again. -/

theorem run_appMO (W : World) (ty : TypeId) (B n m : Nat) (v u : Value) (p q : Nat → Nat) (h : OwnM W B v n p) (hu : SliceN W u m q) (hz : ∀ l c, u ≠ .slice none l c) (hb : n + m ≤ 200000000000000) (hBW : B ≤ W.heap.size) :
    ∃ v' W', (Builtin.append_ #[22, 22] ty #[v, u]).run Try.prog W = .ok v' W' ∧ OwnM W' B v' (n + m) (cat2 n p q) ∧ W.grownBy W' v.ownBlock ∧ (∀ k, v'.ownBlock = some k → v.ownBlock = some k ∨ W.heap.size ≤ k) := by
  obtain ⟨i, i1, i2, i3, i4⟩ := info5
  obtain ⟨g, cap, cur, fz, rfl, hB, hg, h1, h2, h3, h4, h5, h6⟩ := h
  obtain ⟨⟨ua, uc, rfl, u1, u2, u3⟩, u4⟩ := hu
  obtain ⟨ad, rfl⟩ : ∃ ad, ua = some ad := by
    cases ua with
    | none => exact absurd rfl (hz _ _)
    | some x => exact ⟨x, rfl⟩
  have holds : ∀ j x, (bytesL n p)[j]? = some x → W.cell? ((⟨g, 0, none⟩ : Addr).add j) = some x := cells_listN fun j hj => by
    rw [cell_of_row _ _ _ _ _ _ hg, Nat.zero_add]
    exact h4 j hj
  have hnews : ∀ j x, (bytesL m q)[j]? = some x → W.cell? (ad.add j) = some x := by
    intro j x hx
    have hj : j < m := by have := (List.getElem?_eq_some_iff.1 hx).1; rw [bytesL_len] at this; exact this
    obtain ⟨b, off, e, _, hc⟩ := u3 (by omega)
    obtain rfl : ad = ⟨b, off, none⟩ := Option.some.inj e
    exact cells_listN hc j x hx
  have hby : ∀ j, j < n + m → cat2 n p q j < 256 := fun j hj => by
    unfold cat2
    by_cases e : j < n
    · rw [if_pos e]; exact h5 j e
    · rw [if_neg e]; exact u4 _ (by omega)
  have hcat : ∀ j, j < n + m → (bytesL n p ++ bytesL m q)[j]? = some (.int .u8 (cat2 n p q j : Nat)) := fun j hj => by
    unfold cat2
    by_cases e : j < n
    · rw [if_pos e, List.getElem?_append_left (by rw [bytesL_len]; exact e), bytesL_get _ _ _ e]
    · rw [if_neg e, List.getElem?_append_right (by rw [bytesL_len]; omega), bytesL_len, bytesL_get _ _ _ (by omega)]
  by_cases hroom : n + m ≤ cap
  · have hf := run_firstCells_some (P := Try.prog) W i.size m ad m uc (bytesL m q) (by rw [bytesL_len, i3, Nat.mul_one]) hnews
    rw [i3] at hf
    have hst := storeCells_mark Try.prog g n 5 fz (bytesL m q) 0 cur W hg (by rw [h3]; exact h6) (by rw [bytesL_len, h3]; omega) (By8.bytesL_one _ _)
    simp only [Nat.add_zero] at hst
    refine ⟨.slice (some ⟨g, 0, none⟩) (n + m) cap, W.setRow g (cur.toList.take n ++ bytesL m q ++ cur.toList.drop (n + (bytesL m q).length)).toArray, by simp [Builtin.append_, run_underlying Try.underlying22, sizeOf, typeInfo, i1, Builtin.lenOf, hroom, hf, Addr.add_lit, i3, hst], ⟨g, cap, _, fz, rfl, hB, setRow_heap W g cur _ _ _ hg, hroom, h2, ?_, fun j hj => ?_, hby, h6⟩, ⟨rfl, rfl, rfl, by simp, fun k _ hk => setRow_other W g k _ (fun e => hk (by simp [Value.ownBlock, e]))⟩, fun k e => Or.inl e⟩
    · simp [bytesL_len, h3]
      omega
    · have ht : cur.toList.take n = bytesL n p := by
        apply List.ext_getElem?
        intro k
        rw [List.getElem?_take]
        by_cases e : k < n
        · rw [if_pos e, Array.getElem?_toList, h4 k e, bytesL_get _ _ _ e]
        · rw [if_neg e, List.getElem?_eq_none (by rw [bytesL_len]; omega)]
      rw [List.getElem?_toArray, ht, List.getElem?_append_left (by rw [List.length_append, bytesL_len, bytesL_len]; exact hj)]
      exact hcat j hj
  · have hr := run_append_grow (P := Try.prog) W 22 ty 5 i (.int .u8 0) Try.underlying22 i1 i2 ⟨g, 0, none⟩ n cap (bytesL n p) (by rw [bytesL_len, i3, Nat.mul_one]) holds ad m uc (bytesL m q) (by rw [bytesL_len, i3, Nat.mul_one]) hnews (by omega) (by omega) (by rw [i4]; exact grow_fits (by omega) hb)
    have hge := grownCap_ge W (n + m) cap 5
    have hcm : grownCap W (n + m) cap 5 ≤ maxLen := grownCap_le_maxLen W (n + m) cap 5 (by unfold maxLen; omega)
    refine ⟨_, _, hr, ⟨W.heap.size, _, _, _, rfl, hBW, heap_alloc_new W.drew _, hge, hcm, ?_, fun j hj => ?_, hby, Or.inr rfl⟩, ⟨rfl, rfl, rfl, by simp, fun k hk _ => Below.heap_alloc W.drew _ k hk⟩, fun k e => Or.inr (Nat.le_of_eq (Option.some.inj e))⟩
    · simp [bytesL_len, Builtin.zeroCells, Value.cells]
      omega
    · rw [← Array.getElem?_toList]
      simp only [Array.toList_append]
      rw [List.getElem?_append_left (by rw [List.length_append, bytesL_len, bytesL_len]; exact hj)]
      exact hcat j hj
theorem stepAppMO {ops : Array Oper} {Q : Exit → Act → World → Prop} {K : Act → World → Prop} {j : Nat} {o : Oper} {a : Act} {W : World} {s x : Operand} {B n m : Nat} {v u : Value} {p q : Nat → Nat} (hos : ops[j]? = some o) (hgd : Region.wanted o (yielded ops a.tmps) = true)
    (ho : o.op = .call { callee := .builtin .append, args := #[s, x], argTypes := #[22, 22] }) (hs : a.eval s = v) (hx : a.eval x = u) (h : OwnM W B v n p) (hu : SliceN W u m q) (hz : ∀ l c, u ≠ .slice none l c) (hb : n + m ≤ 200000000000000) (hBW : B ≤ W.heap.size)
    (hK : ∀ v' W', OwnM W' B v' (n + m) (cat2 n p q) → W.grownBy W' v.ownBlock → (∀ k, v'.ownBlock = some k → v.ownBlock = some k ∨ W.heap.size ≤ k) → K (a.put o.dst v') W') : wpOp Try.prog ops Q j K a W := by
  obtain ⟨v', W', hr, h1, h2, h3⟩ := run_appMO W o.type B n m v u p q h hu hz hb hBW
  refine stepV hos hgd (v := v') (w' := W') ?_ (hK v' W' h1 h2 h3)
  unfold execOp
  simp only [ho, resolve, invoke, builtin, Sem.run_bind, Sem.run_pure, Result.andThen_ok, List.map_toArray, List.map_cons, List.map_nil, hs, hx, hr]
theorem ownM_row {W : World} {B n : Nat} {v : Value} {p : Nat → Nat} (h : W.ownsRow B 5 1 v n (bytesL n p)) (hn : 0 < n) (hp : ∀ j, j < n → p j < 256) : OwnM W B v n p := by
  rcases h.2 with ⟨_, e⟩ | ⟨g, cap, cur, rfl, hB, hg, h1, h2, h3, h4⟩
  · omega
  · refine ⟨g, cap, cur, _, rfl, hB, hg, h1, h2, by simpa using h3, fun j hj => ?_, hp, Or.inr rfl⟩
    have := bytesL_at n p hj
    rw [← h4, List.getElem?_take, if_pos (by omega)] at this
    rw [← Array.getElem?_toList]
    exact this
/-- append to what Turn answers. -/
theorem stepAppTk {ops : Array Oper} {Q : Exit → Act → World → Prop} {K : Act → World → Prop} {j : Nat} {o : Oper} {a : Act} {W : World} {s x : Operand} {B n m : Nat} {v u : Value} {p q : Nat → Nat} (hos : ops[j]? = some o) (hgd : Region.wanted o (yielded ops a.tmps) = true)
    (ho : o.op = .call { callee := .builtin .append, args := #[s, x], argTypes := #[22, 22] }) (hs : a.eval s = v) (hx : a.eval x = u) (h : TkA W B v n p) (hu : SliceN W u m q) (hz : ∀ l c, u ≠ .slice none l c) (hm : 0 < m) (hb : n + m ≤ 140737488355328) (hBW : B ≤ W.heap.size)
    (hK : ∀ v' W', OwnM W' B v' (n + m) (cat2 n p q) → W.grownBy W' v.ownBlock → (∀ k, v'.ownBlock = some k → v.ownBlock = some k ∨ W.heap.size ≤ k) → K (a.put o.dst v') W') : wpOp Try.prog ops Q j K a W := by
  rcases h with ⟨rfl, rfl⟩ | h
  · have e0 : ∀ j, cat2 0 p q (0 + j) = q j := fun j => by unfold cat2; rw [if_neg (by omega), Nat.zero_add, Nat.sub_zero]
    refine stepAppN (n := 0) (B := W.heap.size) (p := cat2 0 p q) hos hgd ho hs hx (World.ownsRow_nil _ _ _ _) (sliceN_cg hu fun j _ => (e0 j).symm) (fun l c e => absurd e (hz l c)) hb (Nat.le_refl _) fun v' W' own' gr => ?_
    refine hK v' W' ((ownM_row own' (by omega) fun j hj => ?_).base hBW) gr (fun k e => Or.inr (own'.lt k e).1)
    have := e0 j
    rw [Nat.zero_add] at this
    rw [this]
    exact hu.bytes j (by omega)
  · exact stepAppMO hos hgd ho hs hx h hu hz (by omega) hBW hK
end Go.Proofs.Ytpclecbhfjalnaa.Drw
