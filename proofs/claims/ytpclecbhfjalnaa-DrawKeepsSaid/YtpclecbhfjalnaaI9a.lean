import Derived.Test.YtpclecbhfjalnaaG9z
import Derived.Test.YtpclecbhfjalnaaG9s
import Derived.Test.YtpclecbhfjalnaaH9c
namespace Go.Proofs.Ytpclecbhfjalnaa.Drw
open Go.RowKit Gf8 Aes By8 Cel Cf Tap
/- DrawKeeps: what stays and what is written over. -/

def hasR : Code → Nat → Bool
  | .seq x y, k => hasR x k || hasR y k
  | .region id _ _, k => Nat.beq id k
  | .block _ x, k => hasR x k
  | .loop x, k => hasR x k
  | .cond _ x y, k => hasR x k || hasR y k
  | _, _ => false
def leadR : Code → Nat → Bool
  | .seq x _, k => leadR x k
  | .region id _ _, k => Nat.beq id k
  | _, _ => false
/-- The largest piece that begins with region k. -/
def findR (k : Nat) : Code → Code
  | .seq x y => bif leadR x k then .seq x y else bif hasR x k then findR k x else findR k y
  | .block _ x => findR k x
  | .loop x => findR k x
  | .cond _ x y => bif hasR x k then findR k x else findR k y
  | c => c
/-- A list outside the blocks that were written stays. -/
theorem sliceN_sv {G : Nat → Prop} {S W : World} {v : Value} {n : Nat} {f : Nat → Nat} (h : SliceN S v n f) (hs : Saved G S W) (hv : ∀ k, v.ownBlock = some k → ¬ G k) : SliceN W v n f := by
  obtain ⟨⟨a, cap, e, h1, h2, h3⟩, hp⟩ := h
  refine ⟨⟨a, cap, e, h1, h2, fun h0 => ?_⟩, hp⟩
  obtain ⟨b, off, e1, e2, e3⟩ := h3 h0
  subst e e1
  refine ⟨b, off, rfl, Nat.lt_of_lt_of_le e2 hs.size, fun j hj => ?_⟩
  have := e3 j hj
  simp only [World.cell?, hs.block b e2 (hv b rfl)] at this ⊢
  exact this
theorem sliceI_sv {G : Nat → Prop} {S W : World} {v : Value} {n : Nat} {f : Nat → Int} (h : SliceI S v n f) (hs : Saved G S W) (hv : ∀ k, v.ownBlock = some k → ¬ G k) : SliceI W v n f := by
  obtain ⟨⟨a, cap, e, h1, h2, h3⟩, hp⟩ := h
  refine ⟨⟨a, cap, e, h1, h2, fun h0 => ?_⟩, hp⟩
  obtain ⟨b, off, e1, e2, e3⟩ := h3 h0
  subst e e1
  refine ⟨b, off, rfl, Nat.lt_of_lt_of_le e2 hs.size, fun j hj => ?_⟩
  have := e3 j hj
  simp only [World.cell?, hs.block b e2 (hv b rfl)] at this ⊢
  exact this
theorem own_sv {G : Nat → Prop} {S W : World} {B n s : Nat} {t : TypeId} {v : Value} {xs : List Value} (h : S.ownsRow B t s v n xs) (hs : Saved G S W) (hv : ∀ k, v.ownBlock = some k → ¬ G k) : W.ownsRow B t s v n xs := by
  refine ⟨h.1, ?_⟩
  rcases h.2 with h | ⟨g, cap, cur, e, hB, hg, hr⟩
  · exact Or.inl h
  · refine Or.inr ⟨g, cap, cur, e, hB, ?_, hr⟩
    subst e
    rw [hs.block g (Array.getElem?_eq_some_iff.1 hg).1 (hv g rfl)]
    exact hg
/-- A row stays where a cell of a block of another type is set. -/
theorem own_offT {W : World} {B n s g k : Nat} {t u : TypeId} {v z : Value} {xs : List Value} {c : Array Value} {fr : Nat × Nat} (h : W.ownsRow B t s v n xs) (hg : W.heap[g]? = some (.cells c u fr)) (ht : u ≠ t) : (W.setCell ⟨g, k, none⟩ z).ownsRow B t s v n xs := by
  refine ⟨h.1, ?_⟩
  rcases h.2 with h | ⟨g1, cap, cur, e, hB, h1, hr⟩
  · exact Or.inl h
  · refine Or.inr ⟨g1, cap, cur, e, hB, ?_, hr⟩
    rw [Below.heap_setCell _ _ _ _ (fun q => ?_)]
    · exact h1
    · have q2 : g1 = g := q
      subst q2
      rw [h1] at hg
      injection hg with hg
      injection hg with _ hg _
      exact ht hg.symm
theorem tk_offT {W : World} {B n g k : Nat} {u : TypeId} {v z : Value} {q : Nat → Nat} {c : Array Value} {fr : Nat × Nat} (h : TkA W B v n q) (hg : W.heap[g]? = some (.cells c u fr)) (ht : u ≠ 5) : TkA (W.setCell ⟨g, k, none⟩ z) B v n q := by
  rcases h with h | ⟨g1, cap, cur, fz, e, hB, h1, hr⟩
  · exact Or.inl h
  · refine Or.inr ⟨g1, cap, cur, fz, e, hB, ?_, hr⟩
    rw [Below.heap_setCell _ _ _ _ (fun q => ?_)]
    · exact h1
    · have q2 : g1 = g := q
      subst q2
      rw [h1] at hg
      injection hg with hg
      injection hg with _ hg _
      exact ht hg.symm
theorem heap_overL {W W' : World} {B n s : Nat} {v : Value} {xs : List Value} {g : Nat} {c : Array Value} {t u : TypeId} {fr : Nat × Nat} (h : W.ownsRow B u s v n xs) (hg : W.grownBy W' v.ownBlock) (hh : W.heap[g]? = some (.cells c t fr)) (ht : t ≠ u) : W'.heap[g]? = some (.cells c t fr) := by
  rw [hg.block g (Array.getElem?_eq_some_iff.1 hh).1 (fun q => ?_)]
  · exact hh
  · rcases h.2 with ⟨rfl, _⟩ | ⟨k, cap, cur, rfl, _, h1, _⟩
    · cases q
    · obtain rfl : g = k := by simpa [Value.ownBlock] using q
      rw [h1] at hh
      injection hh with hh
      injection hh with _ hh _
      exact ht hh.symm
theorem ownM_put {W : World} {B n g c k z : Nat} {q : Nat → Nat} (h : OwnM W B (.slice (some ⟨g, 0, none⟩) n c) n q) (hz : z < 256) : OwnM (W.setCell ⟨g, 0 + k, none⟩ (.int .u8 ((z : Nat) : Int))) B (.slice (some ⟨g, 0, none⟩) n c) n (fun j => if j = k then z else q j) := by
  obtain ⟨g1, cap, cur, fz, e, hB, h1, h2, h3, h4, h5, h6, h7⟩ := h
  injection e with e1 e2 e3
  injection e1 with e1
  injection e1 with e1 _ _
  subst e1
  subst e3
  rw [Nat.zero_add, setCell_eq_setRow W g k _ _ _ _ h1]
  refine ⟨g, c, _, fz, rfl, hB, setRow_heap _ _ _ _ _ _ h1, h2, h3, by rw [Array.size_setIfInBounds]; exact h4, fun j hj => ?_, fun j hj => ?_, h7⟩
  · rw [Array.getElem?_setIfInBounds]
    show _ = Option.some (Value.int .u8 ((if j = k then z else q j : Nat) : Int))
    by_cases e : k = j
    · subst e
      rw [if_pos rfl, if_pos rfl, if_pos (by omega)]
    · rw [if_neg e, if_neg (fun x => e x.symm)]
      exact h5 j hj
  · show (if j = k then z else q j) < 256
    by_cases q : j = k
    · rw [if_pos q]; exact hz
    · rw [if_neg q]; exact h6 j hj
theorem ownM_at {W : World} {B n g c j : Nat} {q : Nat → Nat} (h : OwnM W B (.slice (some ⟨g, 0, none⟩) n c) n q) (hj : j < n) : q j < 256 ∧ W.cell? ⟨g, 0 + j, none⟩ = Option.some (.int .u8 ((q j : Nat) : Int)) ∧ W.frozen? ⟨g, 0 + j, none⟩ = false := by
  obtain ⟨g1, cap, cur, fz, e, hB, h1, h2, h3, h4, h5, h6, h7⟩ := h
  injection e with e1 e2 e3
  injection e1 with e1
  injection e1 with e1 _ _
  subst e1
  rw [Nat.zero_add]
  refine ⟨h6 j hj, by rw [cell_of_row _ _ _ _ _ _ h1]; exact h5 j hj, ?_⟩
  simp [World.frozen?, h1]
  omega
theorem own_cur {W : World} {B n g c : Nat} {t : TypeId} {xs : List Value} (h : W.ownsRow B t 1 (.slice (some ⟨g, 0, none⟩) n c) n xs) : ∃ cur, W.heap[g]? = some (.cells cur t) ∧ B ≤ g := by
  rcases h.2 with ⟨e, _⟩ | ⟨g', cap', cur, e, hB, hg, _⟩
  · cases e
  · injection e with e1 _ _
    injection e1 with e1
    injection e1 with e1 _ _
    subst e1
    exact ⟨cur, hg, hB⟩
/-- The blocks of the lists a and x. -/
def KGa (a0 x0 : Value) (k : Nat) : Prop := a0.ownBlock = some k ∨ x0.ownBlock = some k
/-- a and x as they are now; all else as it was at S. -/
structure KpA (V S : World) (a0 x0 : Value) (W : World) (va : Value) (na : Nat) (vx : Value) (nx : Nat) : Prop where
  bel : Below V.heap.size V W
  sav : Saved (KGa a0 x0) S W
  ra : ∃ f, W.ownsRow V.heap.size 3 1 va na (intsL na f)
  ga : ∀ k, va.ownBlock = some k → S.heap.size ≤ k ∨ KGa a0 x0 k
  rx : ∃ q, TkA W V.heap.size vx nx q
  gx : ∀ k, vx.ownBlock = some k → S.heap.size ≤ k ∨ KGa a0 x0 k
section
variable {V S W W' : World} {a0 x0 va vx : Value} {na nx : Nat}
theorem KpA.on (h : KpA V S a0 x0 W va na vx nx) (b : Below W.heap.size W W') : KpA V S a0 x0 W' va na vx nx :=
  ⟨h.bel.trans (b.mono h.bel.size), h.sav.below b h.sav.size, h.ra.imp fun _ q => ownD_below q b, h.ga, h.rx.imp fun _ q => q.on b, h.gx⟩
theorem KpA.shA (h : KpA V S a0 x0 W va na vx nx) : ∃ g c, va = .slice g na c := by
  obtain ⟨f, hf⟩ := h.ra
  rcases hf.2 with ⟨rfl, rfl⟩ | ⟨g, cap, cur, rfl, _⟩
  · exact ⟨_, _, rfl⟩
  · exact ⟨_, _, rfl⟩
theorem KpA.shX (h : KpA V S a0 x0 W va na vx nx) : ∃ g c, vx = .slice g nx c := by
  obtain ⟨q, hq⟩ := h.rx
  rcases hq with ⟨rfl, rfl⟩ | ⟨g, cap, cur, fz, rfl, _⟩
  · exact ⟨_, _, rfl⟩
  · exact ⟨_, _, rfl⟩
theorem KpA.soA (h : KpA V S a0 x0 W va na vx nx) (hn : 0 < na) : ∃ g c, va = .slice (some ⟨g, 0, none⟩) na c := by
  obtain ⟨f, hf⟩ := h.ra
  obtain ⟨g, c, e, _⟩ := ownL_some9 hf hn
  exact ⟨g, c, e⟩
theorem KpA.soX (h : KpA V S a0 x0 W va na vx nx) (hn : 0 < nx) : ∃ g c, vx = .slice (some ⟨g, 0, none⟩) nx c := by
  obtain ⟨q, hq⟩ := h.rx
  rcases hq with ⟨_, e⟩ | ⟨g, cap, cur, fz, e, _⟩
  · omega
  · exact ⟨g, cap, e⟩
theorem KpA.atA {g c j : Nat} (h : KpA V S a0 x0 W (.slice (some ⟨g, 0, none⟩) na c) na vx nx) (hj : j < na) : ∃ z, W.cell? ⟨g, 0 + j, none⟩ = some (.int .i64 z) ∧ W.frozen? ⟨g, 0 + j, none⟩ = false := by
  obtain ⟨f, hf⟩ := h.ra
  exact ⟨_, own_cellI hf hj⟩
theorem KpA.atX {g c j : Nat} (h : KpA V S a0 x0 W va na (.slice (some ⟨g, 0, none⟩) nx c) nx) (hj : j < nx) : ∃ z : Nat, z < 256 ∧ W.cell? ⟨g, 0 + j, none⟩ = some (.int .u8 ((z : Nat) : Int)) ∧ W.frozen? ⟨g, 0 + j, none⟩ = false := by
  obtain ⟨q, hq⟩ := h.rx
  rcases hq with ⟨e, _⟩ | hq
  · cases e
  · exact ⟨_, ownM_at hq hj⟩
theorem KpA.setA {g c j : Nat} (h : KpA V S a0 x0 W (.slice (some ⟨g, 0, none⟩) na c) na vx nx) (z : Int) : KpA V S a0 x0 (W.setCell ⟨g, 0 + j, none⟩ (.int .i64 z)) (.slice (some ⟨g, 0, none⟩) na c) na vx nx := by
  obtain ⟨f, hf⟩ := h.ra
  obtain ⟨cur, hg, hB⟩ := own_cur hf
  exact ⟨h.bel.setCell hB _, h.sav.cell _ (h.ga g rfl), ⟨_, own_setF z hf⟩, h.ga, h.rx.imp fun _ q => tk_offT q hg (by decide), h.gx⟩
theorem KpA.setX {g c j z : Nat} (h : KpA V S a0 x0 W va na (.slice (some ⟨g, 0, none⟩) nx c) nx) (hz : z < 256) : KpA V S a0 x0 (W.setCell ⟨g, 0 + j, none⟩ (.int .u8 ((z : Nat) : Int))) va na (.slice (some ⟨g, 0, none⟩) nx c) nx := by
  obtain ⟨q, hq⟩ := h.rx
  rcases hq with ⟨e, _⟩ | hq
  · cases e
  · have hq2 := hq
    obtain ⟨g1, cap, cur, fz, e, hB, h1, _⟩ := hq2
    injection e with e1 _ _
    injection e1 with e1
    injection e1 with e1 _ _
    subst e1
    exact ⟨h.bel.setCell hB _, h.sav.cell _ (h.gx g rfl), h.ra.imp fun _ r => own_offT r h1 (by decide), h.ga, ⟨_, Or.inr (ownM_put hq hz)⟩, h.gx⟩
end
theorem run_placeI (W : World) (ty : TypeId) (B n g : Nat) (v : Value) (f : Nat → Int) (z0 : Int) (hown : W.ownsRow B 3 1 v n (intsL n f)) (hg : W.heap[g]? = some (.cells #[.int .i64 z0] 3)) (hn : n + 1 ≤ 17592186044416) :
    ∃ v' W', (Builtin.append_ #[23, 23] ty #[v, .slice (some ⟨g, 0, none⟩) 1 1]).run Try.prog W = .ok v' W' ∧ (∀ k, v'.ownBlock = some k → v.ownBlock = some k ∨ W.heap.size ≤ k) := by
  obtain ⟨i, i1, i2, i3, i4⟩ := infoI
  have hl : ([.int .i64 z0] : List Value).length = 1 * i.size := by rw [i3]; rfl
  have hnews : ∀ j u, ([.int .i64 z0] : List Value)[j]? = some u → W.cell? ((⟨g, 0, none⟩ : Addr).add j) = some u := fun j u hu => by
    rw [Go.WideShapes.add_plain, cell_of_row _ _ _ _ _ _ hg, Nat.zero_add, ← Array.getElem?_toList]
    exact hu
  have h1 : ∀ u ∈ ([.int .i64 z0] : List Value), u.oneCell' = true := fun u hu => by
    obtain rfl := List.mem_singleton.1 hu
    rfl
  have hown2 := hown.2
  rcases hown2 with ⟨rfl, rfl⟩ | ⟨g', cap, cur, rfl, hB, hg', hnc, hcm, hcs, htake⟩
  · have hr := run_append_nil (P := Try.prog) W 23 ty 3 i (.int .i64 0) Try.underlying23 i1 i2 ⟨g, 0, none⟩ 1 1 [.int .i64 z0] hl hnews (by omega) (by omega) (by rw [i4]; omega)
    exact ⟨_, _, hr, fun k e => Or.inr (Nat.le_of_eq (Option.some.inj e))⟩
  · by_cases hroom : n + 1 ≤ cap
    · have hr := run_append_room (P := Try.prog) W 23 ty 3 i Try.underlying23 i1 g' n cap cur hg' ⟨g, 0, none⟩ 1 1 [.int .i64 z0] hl hnews h1 hroom (by rw [hcs, i3]; simp; omega)
      exact ⟨_, _, hr, fun k e => Or.inl e⟩
    · have holds : ∀ j u, (intsL n f)[j]? = some u → W.cell? ((⟨g', 0, none⟩ : Addr).add j) = some u := hown.cells (g := g') rfl
      have hr := run_append_grow (P := Try.prog) W 23 ty 3 i (.int .i64 0) Try.underlying23 i1 i2 ⟨g', 0, none⟩ n cap (intsL n f) (by rw [i3]; exact hown.1) holds ⟨g, 0, none⟩ 1 1 [.int .i64 z0] hl hnews (by omega) (by omega) (growslice_fits (by omega) (by rw [i4]; omega))
      exact ⟨_, _, hr, fun k e => Or.inr (Nat.le_of_eq (Option.some.inj e))⟩
/-- append to a. -/
theorem stepAppA {V S W : World} {a0 x0 va vx : Value} {na nx g : Nat} {z : Int} {ops : Array Oper} {Q : Exit → Act → World → Prop} {K : Act → World → Prop} {j : Nat} {o : Oper} {a : Act} {s x : Operand} (hos : ops[j]? = some o) (hgd : Region.wanted o (yielded ops a.tmps) = true)
    (ho : o.op = .call { callee := .builtin .append, args := #[s, x], argTypes := #[23, 23] }) (hs : a.eval s = va) (hx : a.eval x = .slice (some ⟨g, 0, none⟩) 1 1) (h : KpA V S a0 x0 W va na vx nx) (hg : W.heap[g]? = some (.cells #[.int .i64 z] 3)) (hn : na + 1 ≤ 17592186044416)
    (hK : ∀ v' W', KpA V S a0 x0 W' v' (na + 1) vx nx → K (a.put o.dst v') W') : wpOp Try.prog ops Q j K a W := by
  obtain ⟨f, hf⟩ := h.ra
  have hf2 : W.ownsRow V.heap.size 3 1 va na (intsL na (fun j => if j < na then f j else z)) := by
    rw [intsL_congr (g := f) (fun j hj => if_pos hj)]
    exact hf
  obtain ⟨i, i1, i2, i3, i4⟩ := infoI
  obtain ⟨v', W', run, q1, q2⟩ := execAppO (W := W) (news := [.int .i64 z]) ho Try.underlying23 i1 i2 i3 i4 rfl (by decide) hs hf2 hx rfl (fun j u hu => by
    rw [Go.WideShapes.add_plain, cell_of_row _ _ _ _ _ _ hg, Nat.zero_add, ← Array.getElem?_toList]
    exact hu) (fun u hu => by
    obtain rfl := List.mem_singleton.1 hu
    rfl) (by unfold maxLen; omega) (by omega) h.bel.size
  obtain ⟨v2, W2, r2, pl⟩ := run_placeI W o.type _ na g va f z hf hg hn
  have r3 : (execOp a.eval o).run Try.prog W = .ok (.value v2) W2 := by
    unfold execOp
    simp only [ho, resolve, invoke, builtin, Sem.run_bind, Sem.run_pure, Result.andThen_ok, List.map_toArray, List.map_cons, List.map_nil, hs, hx, r2]
  have r4 := run.symm.trans r3
  injection r4 with e1 e2
  injection e1 with e1
  subst e1
  refine stepV hos hgd run (hK v' W' ⟨h.bel.grown q2 h.bel.size (fun k hk => (hf.lt k hk).1), h.sav.grown q2 h.ga, ⟨fun j => if j < na then f j else z, ?_⟩, fun k e => ?_, ?_, h.gx⟩)
  · rw [intsL_succ, if_neg (Nat.lt_irrefl _)]
    exact q1
  · rcases pl k e with e2 | e2
    · exact h.ga k e2
    · exact Or.inl (Nat.le_trans h.sav.size e2)
  · obtain ⟨q, hq⟩ := h.rx
    refine ⟨q, ?_⟩
    rcases hq with hq | ⟨g1, cap, cur, fz, e, hB, h1, hr⟩
    · exact Or.inl hq
    · exact Or.inr ⟨g1, cap, cur, fz, e, hB, heap_overL hf q2 h1 (by decide), hr⟩
/-- append to x. -/
theorem stepAppX {V S W : World} {a0 x0 va vx : Value} {na nx g z : Nat} {ops : Array Oper} {Q : Exit → Act → World → Prop} {K : Act → World → Prop} {j : Nat} {o : Oper} {a : Act} {s x : Operand} (hos : ops[j]? = some o) (hgd : Region.wanted o (yielded ops a.tmps) = true)
    (ho : o.op = .call { callee := .builtin .append, args := #[s, x], argTypes := #[22, 22] }) (hs : a.eval s = vx) (hx : a.eval x = .slice (some ⟨g, 0, none⟩) 1 1) (h : KpA V S a0 x0 W va na vx nx) (hg : W.heap[g]? = some (.cells #[.int .u8 ((z : Nat) : Int)] 5)) (hz : z < 256) (hn : nx + 1 ≤ 140737488355328)
    (hK : ∀ v' W', KpA V S a0 x0 W' va na v' (nx + 1) → K (a.put o.dst v') W') : wpOp Try.prog ops Q j K a W := by
  obtain ⟨q, hq⟩ := h.rx
  have hlo : ∀ k, vx.ownBlock = some k → V.heap.size ≤ k := fun k e => by
    rcases hq with ⟨rfl, _⟩ | hq
    · cases e
    · exact (hq.row k e).1
  refine stepAppTk (m := 1) (q := fun _ => z) hos hgd ho hs hx hq (lit_slice hg (fun j hj => by
    match j, hj with
    | 0, _ => rfl
    | k + 1, h => omega) (fun _ _ => hz) (by omega)) (fun l c e => by cases e) (by omega) hn h.bel.size fun v' W' own' gr pl => hK v' W' ⟨h.bel.grown gr h.bel.size hlo, h.sav.grown gr h.gx, ?_, h.ga, ⟨_, Or.inr own'⟩, fun k e => ?_⟩
  · obtain ⟨f, hf⟩ := h.ra
    refine ⟨f, hf.1, ?_⟩
    rcases hf.2 with e | ⟨g1, cap, cur, e, hB, h1, hr⟩
    · exact Or.inl e
    · refine Or.inr ⟨g1, cap, cur, e, hB, ?_, hr⟩
      rcases hq with ⟨rfl, _⟩ | hq
      · rw [gr.block g1 (Array.getElem?_eq_some_iff.1 h1).1 (fun e => by cases e)]
        exact h1
      · exact heap_over hq gr h1 (by decide)
  · rcases pl k e with e2 | e2
    · exact h.gx k e2
    · exact Or.inl (Nat.le_trans h.sav.size e2)
/-- The lists that were handed in written over; all else as it was at S. -/
structure KpB (V S : World) (gp cp gb cb l n : Nat) (W : World) : Prop where
  bel : Below V.heap.size V W
  sav : Saved (fun k => k = gp ∨ k = gb) S W
  rp : ∃ q, W.ownsRow V.heap.size 5 1 (.slice (some ⟨gp, 0, none⟩) (l + 2) cp) (l + 2) (bytesL (l + 2) q) ∧ ∀ j, j < l + 2 → q j < 256
  rb : ∃ f, W.ownsRow V.heap.size 3 1 (.slice (some ⟨gb, 0, none⟩) (n + 2) cb) (n + 2) (intsL (n + 2) f) ∧ ∀ j, j < n + 2 → -9223372036854775808 ≤ f j ∧ f j < 9223372036854775808
section
variable {V S W W' : World} {gp cp gb cb l n : Nat}
theorem KpB.on (h : KpB V S gp cp gb cb l n W) (b : Below W.heap.size W W') : KpB V S gp cp gb cb l n W' :=
  ⟨h.bel.trans (b.mono h.bel.size), h.sav.below b h.sav.size, h.rp.imp fun _ q => ⟨ownD_below q.1 b, q.2⟩, h.rb.imp fun _ q => ⟨ownD_below q.1 b, q.2⟩⟩
theorem KpB.atP {j : Nat} (h : KpB V S gp cp gb cb l n W) (hj : j < l + 2) : ∃ z : Nat, z < 256 ∧ W.cell? ⟨gp, 0 + j, none⟩ = some (.int .u8 ((z : Nat) : Int)) ∧ W.frozen? ⟨gp, 0 + j, none⟩ = false := by
  obtain ⟨q, hq, hb⟩ := h.rp
  exact ⟨q j, hb j hj, own_cell9 hq hj⟩
theorem KpB.atB {j : Nat} (h : KpB V S gp cp gb cb l n W) (hj : j < n + 2) : ∃ z, W.cell? ⟨gb, 0 + j, none⟩ = some (.int .i64 z) ∧ W.frozen? ⟨gb, 0 + j, none⟩ = false := by
  obtain ⟨f, hf, _⟩ := h.rb
  exact ⟨_, own_cellI hf hj⟩
theorem KpB.setP {j z : Nat} (h : KpB V S gp cp gb cb l n W) (hz : z < 256) : KpB V S gp cp gb cb l n (W.setCell ⟨gp, 0 + j, none⟩ (.int .u8 ((z : Nat) : Int))) := by
  obtain ⟨q, hq, hb⟩ := h.rp
  obtain ⟨cur, hg, hB⟩ := own_cur hq
  refine ⟨h.bel.setCell hB _, h.sav.cell _ (Or.inr (Or.inl rfl)), ⟨fun i => if i = j then z else q i, ?_, fun i hi => ?_⟩, h.rb.imp fun _ r => ⟨own_offT r.1 hg (by decide), r.2⟩⟩
  · rw [Nat.zero_add]
    exact own_set8 z hq
  · show (if i = j then z else q i) < 256
    by_cases e : i = j
    · rw [if_pos e]; exact hz
    · rw [if_neg e]; exact hb i hi
theorem KpB.setB {j : Nat} (h : KpB V S gp cp gb cb l n W) : KpB V S gp cp gb cb l n (W.setCell ⟨gb, 0 + j, none⟩ (.int .i64 2)) := by
  obtain ⟨f, hf, hb⟩ := h.rb
  obtain ⟨cur, hg, hB⟩ := own_cur hf
  refine ⟨h.bel.setCell hB _, h.sav.cell _ (Or.inr (Or.inr rfl)), h.rp.imp fun _ r => ⟨own_offT r.1 hg (by decide), r.2⟩, ⟨fun i => if i = j then 2 else f i, own_setF 2 hf, fun i hi => ?_⟩⟩
  show -9223372036854775808 ≤ (if i = j then 2 else f i) ∧ (if i = j then 2 else f i) < 9223372036854775808
  by_cases e : i = j
  · rw [if_pos e]; omega
  · rw [if_neg e]; exact hb i hi
end
theorem own_pre {W : World} {B l d g c : Nat} {q : Nat → Nat} (h : W.ownsRow B 5 1 (.slice (some ⟨g, 0, none⟩) (l + d) c) (l + d) (bytesL (l + d) q)) (hb : ∀ j, j < l + d → q j < 256) : SliceN W (.slice (some ⟨g, 0, none⟩) l c) l q := by
  obtain ⟨⟨ao, cap, e, h1, h2, h3⟩, h4⟩ := own_slice h hb
  injection e with e1 e2 e3
  subst e3
  refine ⟨⟨_, _, rfl, by omega, h2, fun h0 => ?_⟩, fun j hj => hb j (by omega)⟩
  obtain ⟨b, off, e4, e5, e6⟩ := h3 (by omega)
  rw [← e1] at e4
  exact ⟨b, off, e4, e5, fun j hj => e6 j (by omega)⟩
theorem own_preI {W : World} {B l d g c : Nat} {q : Nat → Int} (h : W.ownsRow B 3 1 (.slice (some ⟨g, 0, none⟩) (l + d) c) (l + d) (intsL (l + d) q)) (hb : ∀ j, j < l + d → -9223372036854775808 ≤ q j ∧ q j < 9223372036854775808) : SliceI W (.slice (some ⟨g, 0, none⟩) l c) l q := by
  obtain ⟨⟨ao, cap, e, h1, h2, h3⟩, h4⟩ := own_ints h hb
  injection e with e1 e2 e3
  subst e3
  refine ⟨⟨_, _, rfl, by omega, h2, fun h0 => ?_⟩, fun j hj => hb j (by omega)⟩
  obtain ⟨b, off, e4, e5, e6⟩ := h3 (by omega)
  rw [← e1] at e4
  exact ⟨b, off, e4, e5, fun j hj => e6 j (by omega)⟩
end Go.Proofs.Ytpclecbhfjalnaa.Drw
