import Derived.Test.YtldhhfkplongiaaP9f
namespace Go.Proofs.Ytldhhfkplongiaa.Prm
open Go.RowKit Gf8 Aes By8 Cel Cf Tap Drw
/- Stage 11's reference: Draws. Written by tools/mkP9g.py. -/

theorem own_offB {W : World} {B n s g k : Nat} {t : TypeId} {v z : Value} {xs : List Value} (h : W.ownsRow B t s v n xs) (hv : v.ownBlock ≠ some g) : (W.setCell ⟨g, k, none⟩ z).ownsRow B t s v n xs := by
  refine ⟨h.1, ?_⟩
  rcases h.2 with h | ⟨g1, cap, cur, e, hB, h1, hr⟩
  · exact Or.inl h
  · refine Or.inr ⟨g1, cap, cur, e, hB, ?_, hr⟩
    subst e
    rw [Below.heap_setCell _ _ _ _ (fun q => hv (by show some g1 = some g; have q2 : g1 = g := q; rw [q2]))]
    exact h1
/-- Three rows of one's own, apart. -/
structure Thr (V W : World) (va vt : Value) (n : Nat) (fa ft : Nat → Int) (u : Value) (nu : Nat) (fu : Nat → Int) : Prop where
  ra : W.ownsRow V.heap.size 3 1 va n (intsL n fa)
  rt : W.ownsRow V.heap.size 3 1 vt n (intsL n ft)
  ru : W.ownsRow V.heap.size 3 1 u nu (intsL nu fu)
  nat : ∀ k, va.ownBlock = some k → vt.ownBlock ≠ some k
  nau : ∀ k, u.ownBlock = some k → va.ownBlock ≠ some k ∧ vt.ownBlock ≠ some k
section
variable {V W W' : World} {va vt u : Value} {n nu g c : Nat} {fa ft fu : Nat → Int}
theorem Thr.on (h : Thr V W va vt n fa ft u nu fu) (b : Below W.heap.size W W') : Thr V W' va vt n fa ft u nu fu := ⟨ownD_below h.ra b, ownD_below h.rt b, ownD_below h.ru b, h.nat, h.nau⟩
theorem Thr.atA {j : Nat} (h : Thr V W va vt n fa ft u nu fu) (e : va = .slice (some ⟨g, 0, none⟩) n c) (hj : j < n) : W.cell? ⟨g, 0 + j, none⟩ = some (.int .i64 (fa j)) ∧ W.frozen? ⟨g, 0 + j, none⟩ = false := by
  have h1 := h.ra
  rw [e] at h1
  exact own_cellI h1 hj
theorem Thr.atT {j : Nat} (h : Thr V W va vt n fa ft u nu fu) (e : vt = .slice (some ⟨g, 0, none⟩) n c) (hj : j < n) : W.cell? ⟨g, 0 + j, none⟩ = some (.int .i64 (ft j)) ∧ W.frozen? ⟨g, 0 + j, none⟩ = false := by
  have h1 := h.rt
  rw [e] at h1
  exact own_cellI h1 hj
theorem Thr.setA {j : Nat} (h : Thr V W va vt n fa ft u nu fu) (e : va = .slice (some ⟨g, 0, none⟩) n c) (z : Int) : Thr V (W.setCell ⟨g, 0 + j, none⟩ (.int .i64 z)) va vt n (fun i => if i = j then z else fa i) ft u nu fu := by
  have hb : va.ownBlock = some g := by rw [e]; rfl
  refine ⟨?_, own_offB h.rt (h.nat g hb), own_offB h.ru (fun q => (h.nau g q).1 hb), h.nat, h.nau⟩
  have h1 := h.ra
  rw [e] at h1 ⊢
  exact own_setF z h1
theorem Thr.setT {j : Nat} (h : Thr V W va vt n fa ft u nu fu) (e : vt = .slice (some ⟨g, 0, none⟩) n c) (z : Int) : Thr V (W.setCell ⟨g, 0 + j, none⟩ (.int .i64 z)) va vt n fa (fun i => if i = j then z else ft i) u nu fu := by
  have hb : vt.ownBlock = some g := by rw [e]; rfl
  refine ⟨own_offB h.ra (fun q => h.nat g q hb), ?_, own_offB h.ru (fun q => (h.nau g q).2 hb), h.nat, h.nau⟩
  have h1 := h.rt
  rw [e] at h1 ⊢
  exact own_setF z h1
theorem Thr.cgA {fa' : Nat → Int} (h : Thr V W va vt n fa ft u nu fu) (e : ∀ j, j < n → fa j = fa' j) : Thr V W va vt n fa' ft u nu fu := ⟨by rw [← intsL_congr e]; exact h.ra, h.rt, h.ru, h.nat, h.nau⟩
theorem Thr.cgT {ft' : Nat → Int} (h : Thr V W va vt n fa ft u nu fu) (e : ∀ j, j < n → ft j = ft' j) : Thr V W va vt n fa ft' u nu fu := ⟨h.ra, by rw [← intsL_congr e]; exact h.rt, h.ru, h.nat, h.nau⟩
end
/-- append to the third of them. -/
theorem stepAppT {V W : World} {va vt u : Value} {n nu g : Nat} {fa ft fu : Nat → Int} {ops : Array Oper} {Q : Exit → Act → World → Prop} {K : Act → World → Prop} {j : Nat} {o : Oper} {a : Act} {s x : Operand} (hos : ops[j]? = some o) (hgd : Region.wanted o (yielded ops a.tmps) = true)
    (ho : o.op = .call { callee := .builtin .append, args := #[s, x], argTypes := #[22, 22] }) (hs : a.eval s = u) (hx : a.eval x = .slice (some ⟨g, 0, none⟩) 1 1) (h : Thr V W va vt n fa ft u nu fu) (hg : W.heap[g]? = some (.cells #[.int .i64 (fu nu)] 3)) (hn : nu + 1 ≤ 17592186044416) (hB : V.heap.size ≤ W.heap.size)
    (hK : ∀ v' W', Thr V W' va vt n fa ft v' (nu + 1) fu → W.grownBy W' u.ownBlock → K (a.put o.dst v') W') : wpOp Try.prog ops Q j K a W := by
  obtain ⟨i, i1, i2, i3, i4⟩ := infoI
  obtain ⟨v', W', run, q1, q2⟩ := execAppO (W := W) (news := [.int .i64 (fu nu)]) ho Try.underlying22 i1 i2 i3 i4 rfl (by decide) hs h.ru hx rfl (fun j u hu => by
    rw [Go.WideShapes.add_plain, cell_of_row _ _ _ _ _ _ hg, Nat.zero_add, ← Array.getElem?_toList]
    exact hu) (fun u hu => by
    obtain rfl := List.mem_singleton.1 hu
    rfl) (by unfold maxLen; omega) (by omega) hB
  obtain ⟨v2, W2, r2, pl⟩ := run_placeI W o.type _ nu g u fu (fu nu) h.ru hg hn
  have r3 : (execOp a.eval o).run Try.prog W = .ok (.value v2) W2 := by
    unfold execOp
    simp only [ho, resolve, invoke, builtin, Sem.run_bind, Sem.run_pure, Result.andThen_ok, List.map_toArray, List.map_cons, List.map_nil, hs, hx, r2]
  have r4 := run.symm.trans r3
  injection r4 with e1 e2
  injection e1 with e1
  subst e1
  rw [← intsL_succ] at q1
  refine stepV hos hgd run (hK v' W' ⟨ownW_grown h.ra q2 (fun k e q => (h.nau k q).1 e), ownW_grown h.rt q2 (fun k e q => (h.nau k q).2 e), q1, h.nat, fun k e => ?_⟩ q2)
  rcases pl k e with e3 | e3
  · exact h.nau k e3
  · exact ⟨fun q => by have := (h.ra.lt k q).2; omega, fun q => by have := (h.rt.lt k q).2; omega⟩
theorem dr_a {n I J w Y k : Nat} {g : Nat → Nat} (hnext : drA n g (k + 1) = swp (drA n g k) I J) (eY : drA n g k I = Y) (hAJ : drA n g k J = w) (j : Nat) : (fun i => if i = J then ((Y : Nat) : Int) else (fun j => if j = I then ((w : Nat) : Int) else (fun j => (drA n g k j : Int)) j) i) j = (fun j => (drA n g (k + 1) j : Int)) j := by
  show (if j = J then ((Y : Nat) : Int) else if j = I then ((w : Nat) : Int) else (drA n g k j : Int)) = ((drA n g (k + 1) j : Nat) : Int)
  rw [hnext]
  by_cases q : j = J
  · subst q
    rw [if_pos rfl, swp_j, eY]
  · rw [if_neg q]
    by_cases q2 : j = I
    · subst q2
      rw [if_pos rfl, swp_i, hAJ]
    · rw [if_neg q2, swp_o q2 q]
theorem dr_t {n I J w Y k : Nat} {g : Nat → Nat} (hP : IsP (drA n g k) n) (hI : I < n) (hJ : J < n) (hnext : drA n g (k + 1) = swp (drA n g k) I J) (eY : drA n g k I = Y) (hAJ : drA n g k J = w) {j : Nat} (hj : j < n) : (fun i => if i = w then ((I : Nat) : Int) else (fun j => if j = Y then ((J : Nat) : Int) else (fun j => (posN (drA n g k) j n : Int)) j) i) j = (fun j => (posN (drA n g (k + 1)) j n : Int)) j := by
  show (if j = w then ((I : Nat) : Int) else if j = Y then ((J : Nat) : Int) else (posN (drA n g k) j n : Int)) = ((posN (drA n g (k + 1)) j n : Nat) : Int)
  rw [hnext]
  have hB := isP_swp hP hI hJ
  by_cases q : j = w
  · subst q
    have h1 : posN (swp (drA n g k) I J) (swp (drA n g k) I J I) n = I := inv_of hB hI
    rw [swp_i, hAJ] at h1
    rw [if_pos rfl, h1]
  · rw [if_neg q]
    by_cases q2 : j = Y
    · subst q2
      have h1 : posN (swp (drA n g k) I J) (swp (drA n g k) I J J) n = J := inv_of hB hJ
      rw [swp_j, eY] at h1
      rw [if_pos rfl, h1]
    · rw [if_neg q2]
      obtain ⟨i, hi, e⟩ := surj hP j hj
      have h1 : posN (drA n g k) (drA n g k i) n = i := inv_of hP hi
      have h2 : posN (swp (drA n g k) I J) (swp (drA n g k) I J i) n = i := inv_of hB hi
      have n1 : i ≠ I := fun z => q2 (by rw [← e, z]; exact eY)
      have n2 : i ≠ J := fun z => q (by rw [← e, z]; exact hAJ)
      rw [swp_o n1 n2, e] at h2
      rw [e] at h1
      rw [h1, h2]
end Go.Proofs.Ytldhhfkplongiaa.Prm
