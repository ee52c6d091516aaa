import Derived.Test.YtigkmgoidbamnaaV9h
namespace Go.Proofs.Ytigkmgoidbamnaa.Tap
open Go.RowKit Gf8 Aes By8 Cel Cf
/- The law's lists. Written by tools/mkV9i.py. -/

theorem own_two {W : World} {B : Nat} {p q : Value} (hB : B ≤ W.heap.size) : (W.alloc (.cells #[p, q] 27)).ownsRow B 27 1 (.slice (some ⟨W.heap.size, 0, none⟩) 2 2) 2 [p, q] :=
  ⟨rfl, Or.inr ⟨W.heap.size, 2, #[p, q], rfl, hB, heapNew W _, Nat.le_refl _, by unfold maxLen; omega, rfl, rfl⟩⟩
/-- append of a list of lists, nil or not. -/
theorem execAppLc {o : Oper} {a : Act} {W : World} {s y : Operand} {B n m ka : Nat} {v : Value} {xs : List Value} {aa : Option Addr} {z : Nat → Value}
    (ho : o.op = .call { callee := .builtin .append, args := #[s, y], argTypes := #[47, 47] }) (hs : a.eval s = v) (hx : a.eval y = .slice aa m ka) (hown : W.ownsRow B 27 1 v n xs) (hnil : aa = none → m = 0 ∧ ka = 0) (hc : 0 < m → ∃ cb ob, aa = some ⟨cb, ob, none⟩ ∧ ∀ i, i < m → W.cell? ⟨cb, ob + i, none⟩ = some (z i)) (h1 : ∀ i, i < m → (z i).oneCell' = true) (hn : n + m ≤ 1000000) (hB : B ≤ W.heap.size) :
    ∃ v' W', (execOp a.eval o).run Try.prog W = .ok (.value v') W' ∧ W'.ownsRow B 27 1 v' (n + m) (xs ++ lL z m) ∧ W.grownBy W' v.ownBlock := by
  obtain ⟨i, i1, i2, i3, i4⟩ := infoL8
  cases aa with
  | none =>
    obtain ⟨rfl, rfl⟩ := hnil rfl
    have hr := run_append_owned_none (P := Try.prog) W B 47 o.type 27 i 1 Try.underlying47 i1 v n xs hown
    refine ⟨v, W, ?_, by simpa [lL] using hown, ⟨rfl, rfl, rfl, Nat.le_refl _, fun _ _ _ => rfl⟩⟩
    unfold execOp
    simp only [ho, resolve, invoke, builtin, Sem.run_bind, Sem.run_pure, Result.andThen_ok, List.map_toArray, List.map_cons, List.map_nil, hs, hx, hr]
  | some ad =>
    refine execAppO (news := lL z m) ho Try.underlying47 i1 i2 i3 i4 (by simp [Value.cells]) (by decide) hs hown hx (by rw [lL_len, Nat.mul_one]) (fun j u hu => ?_) (fun u hu => ?_) (by unfold maxLen; omega) (by omega) hB
    · have hj : j < m := by have := (List.getElem?_eq_some_iff.1 hu).1; rw [lL_len] at this; exact this
      obtain ⟨cb, ob, e, hcell⟩ := hc (by omega)
      obtain rfl : ad = ⟨cb, ob, none⟩ := Option.some.inj e
      rw [Go.WideShapes.add_plain, hcell j hj]
      rw [lL_get z m j hj] at hu
      exact hu
    · obtain ⟨j, hj⟩ := List.getElem?_of_mem hu
      have hl : j < m := by have := (List.getElem?_eq_some_iff.1 hj).1; rw [lL_len] at this; exact this
      rw [lL_get z m j hl] at hj
      obtain rfl : z j = u := Option.some.inj hj
      exact h1 j hl
theorem stepAppLc {ops : Array Oper} {Q : Exit → Act → World → Prop} {K : Act → World → Prop} {j : Nat} {o : Oper} {a : Act} {W : World} {s y : Operand} {B n m ka : Nat} {v : Value} {xs : List Value} {aa : Option Addr} {z : Nat → Value} (hos : ops[j]? = some o) (hgd : Region.wanted o (yielded ops a.tmps) = true)
    (ho : o.op = .call { callee := .builtin .append, args := #[s, y], argTypes := #[47, 47] }) (hs : a.eval s = v) (hx : a.eval y = .slice aa m ka) (hown : W.ownsRow B 27 1 v n xs) (hnil : aa = none → m = 0 ∧ ka = 0) (hc : 0 < m → ∃ cb ob, aa = some ⟨cb, ob, none⟩ ∧ ∀ i, i < m → W.cell? ⟨cb, ob + i, none⟩ = some (z i)) (h1 : ∀ i, i < m → (z i).oneCell' = true) (hn : n + m ≤ 1000000) (hB : B ≤ W.heap.size)
    (hK : ∀ v' W', W'.ownsRow B 27 1 v' (n + m) (xs ++ lL z m) → W.grownBy W' v.ownBlock → K (a.put o.dst v') W') : wpOp Try.prog ops Q j K a W := by
  obtain ⟨v', W', run, own', gr⟩ := execAppLc ho hs hx hown hnil hc h1 hn hB
  exact stepV hos hgd run (hK v' W' own' gr)
theorem ownW_base9 {W : World} {B C t s n : Nat} {v : Value} {xs : List Value} (h : W.ownsRow C t s v n xs) (hB : B ≤ C) : W.ownsRow B t s v n xs := by
  refine ⟨h.1, ?_⟩
  rcases h.2 with h | ⟨g, cap, cur, e, hC, h1⟩
  · exact Or.inl h
  · exact Or.inr ⟨g, cap, cur, e, Nat.le_trans hB hC, h1⟩
set_option maxRecDepth 100000 in
set_option maxHeartbeats 4000000 in
theorem lists_any (nv bv : Value) (n : Nat) (aa : Option Addr) (ka : Nat) (x : Nat → Value) (V : World) (shN : ∃ g l c, nv = .slice g l c) (shB : ∃ g l c, bv = .slice g l c) (one : ∀ i, i < n → (x i).oneCell' = true) (hnil : aa = none → n = 0 ∧ ka = 0)
    (hr : 0 < n → ∃ ca oa, aa = some ⟨ca, oa, none⟩ ∧ ca < V.heap.size ∧ ∀ i, i < n → V.cell? ⟨ca, oa + i, none⟩ = some (x i)) (hn : n ≤ 100000) :
    Calls Try.prog 21 #[.agg (ptC nv bv (.slice aa n ka))] V fun e w' => ∃ r, e = .returned r ∧ w'.ownsRow V.heap.size 27 1 r (2 + n) ([nv, bv] ++ lL x n) ∧ Below V.heap.size V w' := by
  obtain ⟨V1, hV1⟩ : ∃ V1, V1 = V.alloc (.cells (ptC nv bv (.slice aa n ka)) 49) := ⟨_, rfl⟩
  have r1 : V1.heap[V.heap.size]? = some (.cells (ptC nv bv (.slice aa n ka)) 49) := by rw [hV1]; exact heapNew V _
  have b1 : Below V.heap.size V V1 := by rw [hV1]; exact belNew V _
  have bX : ∀ X, Below V1.heap.size V1 X → Below V.heap.size V X := fun X hX => b1.trans (hX.mono b1.size)
  have ld : ∀ X, Below V1.heap.size V1 X → X.cell? ⟨V.heap.size, 0, none⟩ = some nv ∧ X.cell? ⟨V.heap.size, 1, none⟩ = some bv ∧ X.cell? ⟨V.heap.size, 2, none⟩ = some (.slice aa n ka) := fun X hX => ptC_at (by rw [hX.block _ (Array.getElem?_eq_some_iff.1 r1).1]; exact r1)
  have rc : ∀ X, Below V1.heap.size V1 X → 0 < n → ∃ cb ob, aa = some ⟨cb, ob, none⟩ ∧ ∀ i, i < n → X.cell? ⟨cb, ob + i, none⟩ = some (x i) := fun X hX h0 => by
    obtain ⟨ca, oa, e, hl, hc⟩ := hr h0
    exact ⟨ca, oa, e, fun i hi => by rw [cell_below (bX X hX) hl]; exact hc i hi⟩
  go_enter Try.func21, Try.ntmps21
  refine wp_seq ?_
  refine wp_region_sqW 11 [(0, 1), (1, 2)] (fun i_ => match i_ with | 0 => .pointer (some ⟨V.heap.size, 0, none⟩) | 1 => .slice none 0 0 | _ => undef) (fun i_ => match i_ with | 0 => V | _ => V1) rfl (by kernel_rfl) (by decide) (by decide) ?_ ?_
  · intro i_ hi_ a hf hv hn
    match i_, hi_ with
    | 0, _ => exact stepV rfl rfl (execBoxP rfl ((hf 0 (by decide)).trans rfl) hV1) ⟨⟨_, rfl, rfl⟩, rfl⟩
    | 1, _ => exact stepV rfl rfl (execAsgB rfl rfl) ⟨⟨_, rfl, rfl⟩, rfl⟩
    | k_ + 2, h_ => exact absurd h_ (by simp)
  intro a h1 h2 h3 h4
  have t1 : a.eval (.tmp 1) = .pointer (some ⟨V.heap.size, 0, none⟩) := h4 0 _ rfl _ rfl
  have A : a.tmps.size = 11 ∧ a.defers = [] := ⟨h1, h2⟩
  clear h1 h2 h3 h4
  refine wp_seq ?_
  refine wp_region_sq (σ := Nat × Value) 11 [(0, 3), (1, 4), (2, 5), (3, 6), (4, 7), (5, 8), (6, 9), (7, 10), (8, 2)] (fun j_ s X => Below V1.heap.size V1 X ∧ (match j_ with | 0 => True | 1 => True | 2 => True | 3 => True | 4 => True | 5 => X.ownsRow V1.heap.size 27 1 (.slice (some ⟨s.1, 0, none⟩) 2 2) 2 [nv, bv] | 6 => X.ownsRow V1.heap.size 27 1 (.slice (some ⟨s.1, 0, none⟩) 2 2) 2 [nv, bv] | 7 => X.ownsRow V1.heap.size 27 1 (.slice (some ⟨s.1, 0, none⟩) 2 2) 2 [nv, bv] | 8 => X.ownsRow V1.heap.size 27 1 s.2 (2 + n) ([nv, bv] ++ lL x n) | _ => X.ownsRow V1.heap.size 27 1 s.2 (2 + n) ([nv, bv] ++ lL x n))) (fun s => fun i_ => match i_ with | 0 => .pointer (some ⟨V.heap.size, 0, none⟩) | 1 => nv | 2 => .pointer (some ⟨V.heap.size, 1, none⟩) | 3 => bv | 4 => .slice (some ⟨s.1, 0, none⟩) 2 2 | 5 => .pointer (some ⟨V.heap.size, 2, none⟩) | 6 => .slice aa n ka | 7 => s.2 | 8 => s.2 | _ => undef) (0, undef) A.1 (by kernel_rfl) (by decide) (by decide) ⟨Below.refl _ _, trivial⟩ ?_ ?_
  · intro i_ hi_ s a X hf hv hn hS
    match i_, hi_ with
    | 0, _ => exact stepV rfl rfl (execPt0 rfl ((hf 1 (by decide)).trans t1)) ⟨s, ⟨_, rfl, rfl⟩, hS, fun _ _ => rfl⟩
    | 1, _ => exact stepV rfl rfl (execLdL rfl (hv 0 (by omega) _ rfl _ rfl) (ld _ hS.1).1) ⟨s, ⟨_, rfl, rfl⟩, hS, fun _ _ => rfl⟩
    | 2, _ => exact stepV rfl rfl (execPt1 rfl ((hf 1 (by decide)).trans t1)) ⟨s, ⟨_, rfl, rfl⟩, hS, fun _ _ => rfl⟩
    | 3, _ => exact stepV rfl rfl (execLdL rfl (hv 2 (by omega) _ rfl _ rfl) (ld _ hS.1).2.1) ⟨s, ⟨_, rfl, rfl⟩, hS, fun _ _ => rfl⟩
    | 4, _ =>
      refine stepV rfl rfl (execBsL2 rfl (hv 1 (by omega) _ rfl _ rfl) (hv 3 (by omega) _ rfl _ rfl) shN shB) ⟨(X.heap.size, s.2), ⟨_, rfl, rfl⟩, ⟨hS.1.trans ((belNew X _).mono hS.1.size), own_two hS.1.size⟩, fun i hi => ?_⟩
      match i, hi with
      | 0, _ => rfl
      | 1, _ => rfl
      | 2, _ => rfl
      | 3, _ => rfl
      | n_ + 4, h_ => omega
    | 5, _ => exact stepV rfl rfl (execPt2 rfl ((hf 1 (by decide)).trans t1)) ⟨s, ⟨_, rfl, rfl⟩, hS, fun _ _ => rfl⟩
    | 6, _ => exact stepV rfl rfl (execLdLL rfl (hv 5 (by omega) _ rfl _ rfl) (ld _ hS.1).2.2) ⟨s, ⟨_, rfl, rfl⟩, hS, fun _ _ => rfl⟩
    | 7, _ =>
      refine stepAppLc (z := x) rfl rfl rfl (hv 4 (by omega) _ rfl _ rfl) (hv 6 (by omega) _ rfl _ rfl) hS.2 hnil (rc X hS.1) one (by omega) hS.1.size fun v' W' own' gr => ⟨(s.1, v'), ⟨_, rfl, rfl⟩, ⟨hS.1.grown gr hS.1.size (fun k hk => (hS.2.lt k hk).1), own'⟩, fun i hi => ?_⟩
      match i, hi with
      | 0, _ => rfl
      | 1, _ => rfl
      | 2, _ => rfl
      | 3, _ => rfl
      | 4, _ => rfl
      | 5, _ => rfl
      | 6, _ => rfl
      | n_ + 7, h_ => omega
    | 8, _ => exact stepV rfl rfl (execAsgB rfl (hv 7 (by omega) _ rfl _ rfl)) ⟨s, ⟨_, rfl, rfl⟩, hS, fun _ _ => rfl⟩
    | k_ + 9, h_ => exact absurd h_ (by simp)
  intro s a X h1 h2 h3 h4 hS
  have hS : Below V1.heap.size V1 X ∧ (X.ownsRow V1.heap.size 27 1 s.2 (2 + n) ([nv, bv] ++ lL x n)) := hS
  have t2 : a.eval (.tmp 2) = s.2 := h4 8 _ rfl _ rfl
  have A := (⟨h1, h2.trans A.2⟩ : a.tmps.size = 11 ∧ a.defers = [])
  clear h1 h2 h3 h4
  refine wp_ret ?_
  refine bodyPost_ret (results_tmp rfl _ _ _) A.2 ⟨s.2, ?_, ownW_base9 hS.2 b1.size, bX _ hS.1⟩
  show Ending.returned (a.eval (.tmp 2)) = _
  rw [t2]
end Go.Proofs.Ytigkmgoidbamnaa.Tap
