import Derived.Test.YtaoncjgllcndmaaDoorD3f
import Derived.Test.YtaoncjgllcndmaaDoorD3l
import Derived.Test.YtaoncjgllcndmaaDoorD3w
import Derived.Test.YtaoncjgllcndmaaDoorD3g
namespace Go.Proofs.YtaoncjgllcndmaaDoor.Frm
open Go.RowKit Gf8 Aes By8 Cel
/- Lists of cells put together; two Feeds. -/

/-- append of a list of lists of one's own, whatever it is. -/
theorem wpList_appLL {ops : Array Oper} {rest : List Oper} {o : Oper} {a : Act} {W : World} {Q : Exit → Act → World → Prop} {B C n m : Nat} {v u : Value} {x y : Nat → Value} (hgd : o.guard = none) (s t : Operand)
    (ho : o.op = .call { callee := .builtin .append, args := #[s, t], argTypes := #[24, 24] }) (hs : a.eval s = v) (hy : a.eval t = u) (hown : W.ownsRow B 30 1 v n (xsL x 0 n)) (hu : W.ownsRow C 30 1 u m (xsL y 0 m)) (h1 : ∀ i, i < m → (y i).oneCell' = true)
    (hbig : n + m ≤ 1000000000) (hB : B ≤ W.heap.size) (h : ∀ v' W', W'.ownsRow B 30 1 v' (n + m) (xsL (fun i => if i < n then x i else y (i - n)) 0 (n + m)) → ((v'.ownBlock = v.ownBlock ∧ W.grownBy W' v.ownBlock) ∨ (v'.ownBlock = some W.heap.size ∧ W.grownBy W' none)) → wpList Tryd.prog ops Q rest (a.put o.dst v') W') : wpList Tryd.prog ops Q (o :: rest) a W := by
  obtain ⟨i, i1, i2, i3, i4⟩ := infoB
  have ex : xsL (fun i => if i < n then x i else y (i - n)) 0 (n + m) = xsL x 0 n ++ xsL y 0 m := by
    rw [← xsL_app]
    congr 1
    · exact xsL_congr fun k hk => if_pos (by omega)
    · unfold xsL
      apply List.map_congr_left
      intro k hk
      show (if 0 + n + k < n then x (0 + n + k) else y (0 + n + k - n)) = y (0 + k)
      rw [if_neg (by omega), show 0 + n + k - n = 0 + k by omega]
  have hyo : ∀ z ∈ xsL y 0 m, z.oneCell' = true := by
    intro z hz
    unfold xsL at hz
    obtain ⟨k, hk, rfl⟩ := List.mem_map.1 hz
    exact h1 _ (by have := List.mem_range.1 hk; omega)
  rcases hu.2 with ⟨rfl, rfl⟩ | ⟨g, cap, cur, rfl, hB', hg, hnc, hcm, hcs, htake⟩
  · refine wpList_append_own_none hgd s t 24 ho B 30 i 1 Tryd.underlying24 i1 v n (xsL x 0 n) hs hown hy ?_
    refine h v W ?_ (.inl ⟨rfl, ⟨rfl, rfl, rfl, Nat.le_refl _, fun _ _ _ => rfl⟩⟩)
    rw [ex]
    have : xsL y 0 0 = [] := rfl
    rw [this, List.append_nil]
    exact hown
  · refine wpList_plain hgd fun K hK => ?_
    obtain ⟨v', w', hr, q1, q2⟩ := run_append_ownQ (P := Tryd.prog) W B 24 o.type 30 i (.slice none 0 0) Tryd.underlying24 i1 i2 i3 i4 rfl v n (xsL x 0 n) hown ⟨g, 0, none⟩ m cap (xsL y 0 m) (xsL_len _ _ _) (by
      intro j z hz
      have hj : j < m := by have := (List.getElem?_eq_some_iff.1 hz).1; rw [xsL_len] at this; exact this
      rw [Addr.add_mid, Nat.zero_add, cell_of_row _ _ _ _ _ _ hg]
      have : (List.take (m * 1) cur.toList)[j]? = some z := by rw [htake]; exact hz
      rw [List.getElem?_take, if_pos (by omega), Array.getElem?_toList] at this
      exact this) hyo hbig hB
    rw [← ex] at q1
    unfold Oper.wp execOp
    simp only [ho, resolve, invoke, builtin, Sem.run_bind, Sem.run_pure, Result.andThen_ok, List.map_toArray, List.map_cons, List.map_nil, hs, hy, hr]
    exact hK _ _ (h v' w' q1 q2)
/-- Only the Feed has changed. -/
theorem ownsRow_svT {W W' : World} {B n F t tF : Nat} {v : Value} {xs : List Value} {c : Array Value} (h : W.ownsRow B t 1 v n xs) (sv : Saved (fun k => k = F) W W') (hF : W.heap[F]? = some (.cells c tF)) (ht : tF ≠ t) : W'.ownsRow B t 1 v n xs := by
  refine ⟨h.1, ?_⟩
  rcases h.2 with h | ⟨g, cap, cur, e, hB, hg, h2⟩
  · exact Or.inl h
  · have hne : g ≠ F := fun q => by
      rw [q, hF] at hg
      have : tF = t := by simpa using congrArg (fun x => match x with | some (Obj.cells _ t _) => t | _ => 0) hg
      exact ht this
    exact Or.inr ⟨g, cap, cur, e, hB, by rw [sv.block g (Array.getElem?_eq_some_iff.1 hg).1 hne]; exact hg, h2⟩
theorem CG.svT {B k F : Nat} {x : Nat → Value} {cb : Nat → Nat → Nat} {cv : Value} {W W' : World} {s s' : FSt} (h : CG B k x cb cv W) (fa : FAt F s W) (ft : FTo F s' W W') : CG B k x cb cv W' :=
  ⟨ownsRow_svT h.own ft.sv fa.row (by decide), ⟨fun t ht => ownsRow_svT (h.fam.rows t ht) ft.sv fa.row (by decide), h.fam.dis⟩⟩
/-- A list of lists that is not ours to change has grown. -/
theorem CG.grown {B C k n : Nat} {x : Nat → Value} {cb : Nat → Nat → Nat} {cv v : Value} {W W' : World} {xs : List Value} (h : CG B k x cb cv W) (hv : W.ownsRow C 30 1 v n xs) (hg : W.grownBy W' v.ownBlock) (hd : ∀ g, cv.ownBlock = some g → v.ownBlock ≠ some g) : CG B k x cb cv W' := by
  refine ⟨?_, h.fam.grown hv hg⟩
  refine h.own.kept hg ?_
  cases e : cv.ownBlock with
  | none => exact Or.inl rfl
  | some g => exact Or.inr (fun q => hd g e q.symm)
theorem FAt.grown {F C n : Nat} {s : FSt} {v : Value} {W W' : World} {xs : List Value} (h : FAt F s W) (hv : W.ownsRow C 30 1 v n xs) (hg : W.grownBy W' v.ownBlock) : FAt F s W' :=
  ⟨by rw [hg.block F h.lt (ownL_ne hv h.row (by decide))]; exact h.row⟩
/-- Cells put behind cells. -/
theorem CG.join {B C c m : Nat} {y x : Nat → Value} {p : Nat → Nat} {pv u v' : Value} {W0 W W' : World} (h : CG B c y (fun i => cellB p i) pv W0) (h0 : CG B c y (fun i => cellB p i) pv W) (hC : C = W0.heap.size) (hB : B ≤ C) (hu : CG C m x (fun i => cellB p (c + i)) u W)
    (own : W'.ownsRow B 30 1 v' (c + m) (xsL (fun i => if i < c then y i else x (i - c)) 0 (c + m))) (hg : W.grownBy W' pv.ownBlock) : CG B (c + m) (fun i => if i < c then y i else x (i - c)) (fun i => cellB p i) v' W' := by
  refine ⟨own, ⟨fun t ht => ?_, fun s t hs ht hst => ?_⟩⟩
  · by_cases e : t < c
    · simp only [if_pos e]
      exact (h0.fam.grown h0.own hg).rows t e
    · simp only [if_neg e]
      have := (hu.fam.grown h0.own hg).rows (t - c) (by omega)
      rw [show c + (t - c) = t by omega] at this
      exact own_base this hB
  · have key : ∀ s t, s < c → t < m → Dis (y s) (x t) := by
      intro s t hs ht k h1 h2
      have a := (h.fam.rows s hs).lt k h1
      have b := (hu.fam.rows t ht).lt k h2
      omega
    by_cases e1 : s < c
    · by_cases e2 : t < c
      · simp only [if_pos e1, if_pos e2]
        exact h.fam.dis s t e1 e2 hst
      · simp only [if_pos e1, if_neg e2]
        exact key s (t - c) e1 (by omega)
    · by_cases e2 : t < c
      · simp only [if_neg e1, if_pos e2]
        exact (key t (s - c) e2 (by omega)).symm
      · simp only [if_neg e1, if_neg e2]
        exact hu.fam.dis _ _ (by omega) (by omega) (by omega)
end Go.Proofs.YtaoncjgllcndmaaDoor.Frm

namespace Go.Proofs.YtaoncjgllcndmaaDoor.Frm
open Go.RowKit Gf8 Aes By8 Cel
/- Groundwork for FrameReads: appends under a guard; lists that stay. -/

set_option maxRecDepth 20000 in
theorem wpList_appSW {ops : Array Oper} {rest : List Oper} {o : Oper} {a : Act} {W : World} {Q : Exit → Act → World → Prop} {B n m : Nat} {v u : Value} {p : Nat → Nat} (hw : Region.wanted o (yielded ops a.tmps) = true) (s x : Operand)
    (ho : o.op = .call { callee := .builtin .append, args := #[s, x], argTypes := #[30, 30] })
    (hs : a.eval s = v) (hx : a.eval x = u) (hown : W.ownsRow B 5 1 v n (bytesL n p)) (hu : SliceN W u m (fun j => p (n + j))) (hnil : ∀ l c, u = .slice none l c → c = 0)
    (hbig : n + m ≤ 200000000000000) (hB : B ≤ W.heap.size)
    (h : ∀ v' W', W'.ownsRow B 5 1 v' (n + m) (bytesL (n + m) p) → ((v'.ownBlock = v.ownBlock ∧ W.grownBy W' v.ownBlock) ∨ (v'.ownBlock = some W.heap.size ∧ W.grownBy W' none)) → wpList Tryd.prog ops Q rest (a.put o.dst v') W') : wpList Tryd.prog ops Q (o :: rest) a W := by
  obtain ⟨i, h1, h2, h3, h4⟩ := info5
  obtain ⟨⟨ao, cap, rfl, _, _, hc⟩, _⟩ := hu
  cases ao with
  | none =>
    have hm : m = 0 := by
      rcases Nat.eq_zero_or_pos m with e | e
      · exact e
      · obtain ⟨_, _, e', _⟩ := hc e
        cases e'
    subst hm
    have hcap := hnil _ _ rfl
    subst hcap
    refine BigFrame.wpList_want hw fun K hK => ?_
    have hr := run_append_owned_none (P := Tryd.prog) (w := W) B 30 o.type 5 i 1 Tryd.underlying30 h1 v n (bytesL n p) hown
    unfold Oper.wp execOp
    simp only [ho, resolve, invoke, builtin, Sem.run_bind, Sem.run_pure, Result.andThen_ok, List.map_toArray, List.map_cons, List.map_nil, hs, hx, hr]
    exact hK _ _ (h v W hown (.inl ⟨rfl, ⟨rfl, rfl, rfl, Nat.le_refl _, fun _ _ _ => rfl⟩⟩))
  | some ad =>
    refine BigFrame.wpList_want hw fun K hK => ?_
    obtain ⟨v', w', hr, q1, q2⟩ := run_append_ownP (P := Tryd.prog) W B 30 o.type 5 i (.int .u8 0) Tryd.underlying30 h1 h2 h3 h4 rfl v n (bytesL n p) hown ad m cap (bytesL m fun j => p (n + j)) (bytesL_len _ _) (by
      intro j z hz
      have hj : j < m := by have := (List.getElem?_eq_some_iff.1 hz).1; rw [bytesL_len] at this; exact this
      obtain ⟨b, off, e, _, e3⟩ := hc (by omega)
      injection e with e
      subst e
      rw [Go.WideShapes.add_plain, e3 j hj]
      rw [bytesL_at m _ hj] at hz
      exact hz) (by
      intro z hz
      unfold bytesL at hz
      obtain ⟨k, _, rfl⟩ := List.mem_map.1 hz
      rfl) hbig hB
    rw [bytesL_app] at q1
    unfold Oper.wp execOp
    simp only [ho, resolve, invoke, builtin, Sem.run_bind, Sem.run_pure, Result.andThen_ok, List.map_toArray, List.map_cons, List.map_nil, hs, hx, hr]
    exact hK _ _ (h v' w' q1 q2)
set_option maxRecDepth 20000 in
theorem wpList_appLLW {ops : Array Oper} {rest : List Oper} {o : Oper} {a : Act} {W : World} {Q : Exit → Act → World → Prop} {B C n m : Nat} {v u : Value} {x y : Nat → Value} (hw : Region.wanted o (yielded ops a.tmps) = true) (s t : Operand)
    (ho : o.op = .call { callee := .builtin .append, args := #[s, t], argTypes := #[24, 24] }) (hs : a.eval s = v) (hy : a.eval t = u) (hown : W.ownsRow B 30 1 v n (xsL x 0 n)) (hu : W.ownsRow C 30 1 u m (xsL y 0 m)) (h1 : ∀ i, i < m → (y i).oneCell' = true)
    (hbig : n + m ≤ 1000000000) (hB : B ≤ W.heap.size) (h : ∀ v' W', W'.ownsRow B 30 1 v' (n + m) (xsL (fun i => if i < n then x i else y (i - n)) 0 (n + m)) → ((v'.ownBlock = v.ownBlock ∧ W.grownBy W' v.ownBlock) ∨ (v'.ownBlock = some W.heap.size ∧ W.grownBy W' none)) → wpList Tryd.prog ops Q rest (a.put o.dst v') W') : wpList Tryd.prog ops Q (o :: rest) a W := by
  obtain ⟨i, i1, i2, i3, i4⟩ := infoB
  have ex : xsL (fun i => if i < n then x i else y (i - n)) 0 (n + m) = xsL x 0 n ++ xsL y 0 m := by
    rw [← xsL_app]
    congr 1
    · exact xsL_congr fun k hk => if_pos (by omega)
    · unfold xsL
      apply List.map_congr_left
      intro k hk
      show (if 0 + n + k < n then x (0 + n + k) else y (0 + n + k - n)) = y (0 + k)
      rw [if_neg (by omega), show 0 + n + k - n = 0 + k by omega]
  have hyo : ∀ z ∈ xsL y 0 m, z.oneCell' = true := by
    intro z hz
    unfold xsL at hz
    obtain ⟨k, hk, rfl⟩ := List.mem_map.1 hz
    exact h1 _ (by have := List.mem_range.1 hk; omega)
  rcases hu.2 with ⟨rfl, rfl⟩ | ⟨g, cap, cur, rfl, hB', hg, hnc, hcm, hcs, htake⟩
  · refine BigFrame.wpList_want hw fun K hK => ?_
    have hr := run_append_owned_none (P := Tryd.prog) (w := W) B 24 o.type 30 i 1 Tryd.underlying24 i1 v n (xsL x 0 n) hown
    unfold Oper.wp execOp
    simp only [ho, resolve, invoke, builtin, Sem.run_bind, Sem.run_pure, Result.andThen_ok, List.map_toArray, List.map_cons, List.map_nil, hs, hy, hr]
    refine hK _ _ (h v W ?_ (.inl ⟨rfl, ⟨rfl, rfl, rfl, Nat.le_refl _, fun _ _ _ => rfl⟩⟩))
    rw [ex]
    have : xsL y 0 0 = [] := rfl
    rw [this, List.append_nil]
    exact hown
  · refine BigFrame.wpList_want hw fun K hK => ?_
    obtain ⟨v', w', hr, q1, q2⟩ := run_append_ownQ (P := Tryd.prog) W B 24 o.type 30 i (.slice none 0 0) Tryd.underlying24 i1 i2 i3 i4 rfl v n (xsL x 0 n) hown ⟨g, 0, none⟩ m cap (xsL y 0 m) (xsL_len _ _ _) (by
      intro j z hz
      have hj : j < m := by have := (List.getElem?_eq_some_iff.1 hz).1; rw [xsL_len] at this; exact this
      rw [Addr.add_mid, Nat.zero_add, cell_of_row _ _ _ _ _ _ hg]
      have : (List.take (m * 1) cur.toList)[j]? = some z := by rw [htake]; exact hz
      rw [List.getElem?_take, if_pos (by omega), Array.getElem?_toList] at this
      exact this) hyo hbig hB
    rw [← ex] at q1
    unfold Oper.wp execOp
    simp only [ho, resolve, invoke, builtin, Sem.run_bind, Sem.run_pure, Result.andThen_ok, List.map_toArray, List.map_cons, List.map_nil, hs, hy, hr]
    exact hK _ _ (h v' w' q1 q2)

theorem rk_facts {p : Nat → Nat} {len : Nat} (hb : ∀ j, j < len → p j < 256) : rK p len ≤ 256 ∧ ∀ i j, i < rK p len → j < 320 → cellB p i j < 256 := by
  by_cases h : (jE p len).2 = 0
  · obtain ⟨h1, _, _, _, h5⟩ := pack_read hb h
    exact ⟨h1, cellB_lt hb (by omega)⟩
  · have e : rK p len = 0 := by
      unfold rK okR
      rw [if_neg]
      simpa using h
    rw [e]
    exact ⟨by omega, fun i j hi => by omega⟩
theorem CL.svF {B k F : Nat} {x : Nat → Value} {p : Nat → Nat} {cv : Value} {W W' : World} (h : CL B k x p cv W) (s : Saved (fun k => k = F) W W') (hF : F < B) : CL B k x p cv W' :=
  ⟨ownsRow_sv h.own s hF, ⟨fun t ht => ownsRow_sv (h.fam.rows t ht) s hF, h.fam.dis⟩⟩
/-- Do all blocks of a list of lists lie below b? -/
structure LtB (b k : Nat) (x : Nat → Value) (cv : Value) : Prop where
  own : ∀ g, cv.ownBlock = some g → g < b
  rows : ∀ t, t < k → ∀ g, (x t).ownBlock = some g → g < b
theorem CL.ltB {B k : Nat} {x : Nat → Value} {p : Nat → Nat} {cv : Value} {W : World} (h : CL B k x p cv W) : LtB W.heap.size k x cv :=
  ⟨fun g hg => (h.own.lt g hg).2, fun t ht g hg => ((h.fam.rows t ht).lt g hg).2⟩
theorem row_onB {W W' : World} {B n b t : Nat} {v : Value} {xs : List Value} (h : W.ownsRow B t 1 v n xs) (hl : ∀ g, v.ownBlock = some g → g < b) (hb : Below b W W') : W'.ownsRow B t 1 v n xs := by
  refine ⟨h.1, ?_⟩
  rcases h.2 with h | ⟨g, cap, cur, e, hB, hg, h2⟩
  · exact Or.inl h
  · exact Or.inr ⟨g, cap, cur, e, hB, by rw [hb.block g (hl g (by rw [e]; rfl))]; exact hg, h2⟩
theorem CL.onB {B k b : Nat} {x : Nat → Value} {p : Nat → Nat} {cv : Value} {W W' : World} (h : CL B k x p cv W) (hl : LtB b k x cv) (hb : Below b W W') : CL B k x p cv W' :=
  ⟨row_onB h.own hl.own hb, ⟨fun t ht => row_onB (h.fam.rows t ht) (hl.rows t ht) hb, h.fam.dis⟩⟩
theorem savedG_below {G : Nat → Prop} {B : Nat} {V W : World} (h : Saved G V W) (hG : ∀ k, G k → B ≤ k) (hB : B ≤ V.heap.size) : Below B V W :=
  ⟨h.os, h.tape, h.output, h.size, fun k hk => h.block k (by omega) (fun g => by have := hG k g; omega)⟩
/-- Two families, the one's blocks below the other's base. -/
theorem fam_join {A B C k m : Nat} {x y : Nat → Value} {f h : Nat → Nat → Nat} {W : World} {N : Nat} (h1 : Fam A k x (fun _ => N) f W) (h2 : Fam B m y (fun _ => N) h W) (hA : C ≤ A) (hB : C ≤ B) (hl : ∀ t, t < k → ∀ g, (x t).ownBlock = some g → g < B) :
    Fam C (k + m) (fun t => if t < k then x t else y (t - k)) (fun _ => N) (fun t => if t < k then f t else h (t - k)) W := by
  refine ⟨fun t ht => ?_, fun s t hs ht hst => ?_⟩
  · by_cases e : t < k
    · simp only [if_pos e]; exact own_base (h1.rows t e) hA
    · simp only [if_neg e]; exact own_base (h2.rows (t - k) (by omega)) hB
  · by_cases e : s < k
    · by_cases e2 : t < k
      · simp only [if_pos e, if_pos e2]; exact h1.dis s t e e2 hst
      · simp only [if_pos e, if_neg e2]
        intro g hg hq
        have a := hl s e g hg
        have b := ((h2.rows (t - k) (by omega)).lt g hq).1
        omega
    · by_cases e2 : t < k
      · simp only [if_neg e, if_pos e2]
        intro g hg hq
        have a := hl t e2 g hq
        have b := ((h2.rows (s - k) (by omega)).lt g hg).1
        omega
      · simp only [if_neg e, if_neg e2]; exact h2.dis _ _ (by omega) (by omega) (by omega)
end Go.Proofs.YtaoncjgllcndmaaDoor.Frm
