import Derived.Test.YtdkkbgokemimfaaDoorD3f
import Derived.Test.YtdkkbgokemimfaaDoorD2n
namespace Go.Proofs.YtdkkbgokemimfaaDoor.Frm
open Go.RowKit Gf8 Aes By8 Cel
/- Lists of cells put together; two Feeds. -/

/-- append of a list of lists of one's own, whatever it is. -/
theorem wpList_appLL {ops : Array Oper} {rest : List Oper} {o : Oper} {a : Act} {W : World} {Q : Exit → Act → World → Prop} {B C n m : Nat} {v u : Value} {x y : Nat → Value} (hgd : o.guard = none) (s t : Operand)
    (ho : o.op = .call { callee := .builtin .append, args := #[s, t], argTypes := #[24, 24] }) (hs : a.eval s = v) (hy : a.eval t = u) (hown : W.ownsRow B 30 1 v n (xsL x 0 n)) (hu : W.ownsRow C 30 1 u m (xsL y 0 m)) (h1 : ∀ i, i < m → (y i).oneCell' = true)
    (hbig : n + m ≤ 1000) (hB : B ≤ W.heap.size) (h : ∀ v' W', W'.ownsRow B 30 1 v' (n + m) (xsL (fun i => if i < n then x i else y (i - n)) 0 (n + m)) → ((v'.ownBlock = v.ownBlock ∧ W.grownBy W' v.ownBlock) ∨ (v'.ownBlock = some W.heap.size ∧ W.grownBy W' none)) → wpList Tryd.prog ops Q rest (a.put o.dst v') W') : wpList Tryd.prog ops Q (o :: rest) a W := by
  obtain ⟨i, i1, i2, i3, i4⟩ := infoB
  have ex : xsL (fun i => if i < n then x i else y (i - n)) 0 (n + m) = xsL x 0 n ++ xsL y 0 m := by
    rw [← xsL_app]
    congr 1
    · exact xsL_congr fun k hk => if_pos (by omega)
    · unfold xsL
      apply List.map_congr_left
      intro k hk
      show (if 0 + n + k < n then x (0 + n + k) else y (0 + n + k - n)) = y (0 + k)
      rw [if_neg (by omega), show 0 + n + k - n = 0 + k by omega]
  have hyo : ∀ z ∈ xsL y 0 m, z.oneCell' = true := by
    intro z hz
    unfold xsL at hz
    obtain ⟨k, hk, rfl⟩ := List.mem_map.1 hz
    exact h1 _ (by have := List.mem_range.1 hk; omega)
  rcases hu.2 with ⟨rfl, rfl⟩ | ⟨g, cap, cur, rfl, hB', hg, hnc, hcm, hcs, htake⟩
  · refine wpList_append_own_none hgd s t 24 ho B 30 i 1 Tryd.underlying24 i1 v n (xsL x 0 n) hs hown hy ?_
    refine h v W ?_ (.inl ⟨rfl, ⟨rfl, rfl, rfl, Nat.le_refl _, fun _ _ _ => rfl⟩⟩)
    rw [ex]
    have : xsL y 0 0 = [] := rfl
    rw [this, List.append_nil]
    exact hown
  · refine wpList_plain hgd fun K hK => ?_
    obtain ⟨v', w', hr, q1, q2⟩ := run_append_ownQ (P := Tryd.prog) W B 24 o.type 30 i (.slice none 0 0) Tryd.underlying24 i1 i2 i3 i4 rfl v n (xsL x 0 n) hown ⟨g, 0, none⟩ m cap (xsL y 0 m) (xsL_len _ _ _) (by
      intro j z hz
      have hj : j < m := by have := (List.getElem?_eq_some_iff.1 hz).1; rw [xsL_len] at this; exact this
      rw [Addr.add_mid, Nat.zero_add, cell_of_row _ _ _ _ _ _ hg]
      have : (List.take (m * 1) cur.toList)[j]? = some z := by rw [htake]; exact hz
      rw [List.getElem?_take, if_pos (by omega), Array.getElem?_toList] at this
      exact this) hyo hbig hB
    rw [← ex] at q1
    unfold Oper.wp execOp
    simp only [ho, resolve, invoke, builtin, Sem.run_bind, Sem.run_pure, Result.andThen_ok, List.map_toArray, List.map_cons, List.map_nil, hs, hy, hr]
    exact hK _ _ (h v' w' q1 q2)
/-- Only the Feed has changed. -/
theorem ownsRow_svT {W W' : World} {B n F t tF : Nat} {v : Value} {xs : List Value} {c : Array Value} (h : W.ownsRow B t 1 v n xs) (sv : Saved (fun k => k = F) W W') (hF : W.heap[F]? = some (.cells c tF)) (ht : tF ≠ t) : W'.ownsRow B t 1 v n xs := by
  refine ⟨h.1, ?_⟩
  rcases h.2 with h | ⟨g, cap, cur, e, hB, hg, h2⟩
  · exact Or.inl h
  · have hne : g ≠ F := fun q => by
      rw [q, hF] at hg
      have : tF = t := by simpa using congrArg (fun x => match x with | some (Obj.cells _ t _) => t | _ => 0) hg
      exact ht this
    exact Or.inr ⟨g, cap, cur, e, hB, by rw [sv.block g (Array.getElem?_eq_some_iff.1 hg).1 hne]; exact hg, h2⟩
theorem CG.svT {B k F : Nat} {x : Nat → Value} {cb : Nat → Nat → Nat} {cv : Value} {W W' : World} {s s' : FSt} (h : CG B k x cb cv W) (fa : FAt F s W) (ft : FTo F s' W W') : CG B k x cb cv W' :=
  ⟨ownsRow_svT h.own ft.sv fa.row (by decide), ⟨fun t ht => ownsRow_svT (h.fam.rows t ht) ft.sv fa.row (by decide), h.fam.dis⟩⟩
/-- A list of lists that is not ours to change has grown. -/
theorem CG.grown {B C k n : Nat} {x : Nat → Value} {cb : Nat → Nat → Nat} {cv v : Value} {W W' : World} {xs : List Value} (h : CG B k x cb cv W) (hv : W.ownsRow C 30 1 v n xs) (hg : W.grownBy W' v.ownBlock) (hd : ∀ g, cv.ownBlock = some g → v.ownBlock ≠ some g) : CG B k x cb cv W' := by
  refine ⟨?_, h.fam.grown hv hg⟩
  refine h.own.kept hg ?_
  cases e : cv.ownBlock with
  | none => exact Or.inl rfl
  | some g => exact Or.inr (fun q => hd g e q.symm)
theorem FAt.grown {F C n : Nat} {s : FSt} {v : Value} {W W' : World} {xs : List Value} (h : FAt F s W) (hv : W.ownsRow C 30 1 v n xs) (hg : W.grownBy W' v.ownBlock) : FAt F s W' :=
  ⟨by rw [hg.block F h.lt (ownL_ne hv h.row (by decide))]; exact h.row⟩
/-- Cells put behind cells. -/
theorem CG.join {B C c m : Nat} {y x : Nat → Value} {p : Nat → Nat} {pv u v' : Value} {W0 W W' : World} (h : CG B c y (fun i => cellB p i) pv W0) (h0 : CG B c y (fun i => cellB p i) pv W) (hC : C = W0.heap.size) (hB : B ≤ C) (hu : CG C m x (fun i => cellB p (c + i)) u W)
    (own : W'.ownsRow B 30 1 v' (c + m) (xsL (fun i => if i < c then y i else x (i - c)) 0 (c + m))) (hg : W.grownBy W' pv.ownBlock) : CG B (c + m) (fun i => if i < c then y i else x (i - c)) (fun i => cellB p i) v' W' := by
  refine ⟨own, ⟨fun t ht => ?_, fun s t hs ht hst => ?_⟩⟩
  · by_cases e : t < c
    · simp only [if_pos e]
      exact (h0.fam.grown h0.own hg).rows t e
    · simp only [if_neg e]
      have := (hu.fam.grown h0.own hg).rows (t - c) (by omega)
      rw [show c + (t - c) = t by omega] at this
      exact own_base this hB
  · have key : ∀ s t, s < c → t < m → Dis (y s) (x t) := by
      intro s t hs ht k h1 h2
      have a := (h.fam.rows s hs).lt k h1
      have b := (hu.fam.rows t ht).lt k h2
      omega
    by_cases e1 : s < c
    · by_cases e2 : t < c
      · simp only [if_pos e1, if_pos e2]
        exact h.fam.dis s t e1 e2 hst
      · simp only [if_pos e1, if_neg e2]
        exact key s (t - c) e1 (by omega)
    · by_cases e2 : t < c
      · simp only [if_neg e1, if_pos e2]
        exact (key t (s - c) e2 (by omega)).symm
      · simp only [if_neg e1, if_neg e2]
        exact hu.fam.dis _ _ (by omega) (by omega) (by omega)
end Go.Proofs.YtdkkbgokemimfaaDoor.Frm
