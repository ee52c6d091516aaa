import Derived.Test.YtigkmgoidbamnaaV9x
namespace Go.Proofs.Ytigkmgoidbamnaa.Tap
open Go.RowKit Gf8 Aes By8 Cel Cf
/- The reference's Split with its errors; rows of bytes that are written over. -/

set_option maxRecDepth 20000 in
theorem rsplit_any (f : Nat → Nat) (len : Nat) (ch : Int) (v : Value) (V : World) (hv : SliceN V v len f) (hl : len ≤ 140737488351232) :
    Calls Try.prog 17 #[v, .int .i64 ch] V fun e w' => ∃ nv bv cv x, e = .returned (.tuple #[.agg (ptC nv bv cv), .int .i64 (spE len ch : Nat)]) ∧ PtS w' V.heap.size (spC len ch) nv bv cv x (spA len ch) (spB len ch) (spQ len ch) f ∧ Below V.heap.size V w' := by
  have no : spE len ch ≠ 0 → spC len ch = 0 ∧ spA len ch = 0 ∧ spB len ch = 0 ∧ spQ len ch = 0 := fun h => by
    unfold spC spA spB spQ
    simp [h]
  obtain ⟨ao, cap, rfl, _⟩ := id hv.shape
  by_cases h1 : ch < 1
  · have E : spE len ch = 2 := if_pos (Or.inl h1)
    obtain ⟨e1, e2, e3, e4⟩ := no (by rw [E]; decide)
    rw [E, e1, e2, e3, e4]
    clear no E e1 e2 e3 e4 hv hl
    go_enter Try.func17, Try.ntmps17
    go_wp2
    refine bodyPost_ret (results_ct9 (cs := ptC (.slice none 0 0) (.slice none 0 0) (.slice none 0 0)) rfl _ _ V.heap.size 49 (0, 0) _ rfl (heapNew V _) Try.underlying49 rfl (size_pt _ _ _)) rfl (by first | exact ⟨_, _, _, fun _ => undef, rfl, pts_none _ _ _ _, belNew V _⟩ | exact ⟨_, _, _, rfl, ⟨fun _ => undef, pts_none _ _ _ _⟩, belNew V _⟩)
  · by_cases h2 : 64 < ch
    · have E : spE len ch = 2 := if_pos (Or.inr h2)
      obtain ⟨e1, e2, e3, e4⟩ := no (by rw [E]; decide)
      rw [E, e1, e2, e3, e4]
      have i2 : ch > 64 := h2
      clear no E e1 e2 e3 e4 hv hl h2
      go_enter Try.func17, Try.ntmps17
      go_wp2
      refine bodyPost_ret (results_ct9 (cs := ptC (.slice none 0 0) (.slice none 0 0) (.slice none 0 0)) rfl _ _ V.heap.size 49 (0, 0) _ rfl (heapNew V _) Try.underlying49 rfl (size_pt _ _ _)) rfl (by first | exact ⟨_, _, _, fun _ => undef, rfl, pts_none _ _ _ _, belNew V _⟩ | exact ⟨_, _, _, rfl, ⟨fun _ => undef, pts_none _ _ _ _⟩, belNew V _⟩)
    · by_cases h3 : len < 18
      · have E : spE len ch = 3 := by unfold spE; rw [if_neg (by omega), if_pos h3]
        obtain ⟨e1, e2, e3, e4⟩ := no (by rw [E]; decide)
        rw [E, e1, e2, e3, e4]
        have i2 : ¬ ch > 64 := h2
        have i3 : (len : Int) < 18 := by omega
        clear no E e1 e2 e3 e4 hv hl h2 h3
        go_enter Try.func17, Try.ntmps17
        go_wp2
        refine bodyPost_ret (results_ct9 (cs := ptC (.slice none 0 0) (.slice none 0 0) (.slice none 0 0)) rfl _ _ V.heap.size 49 (0, 0) _ rfl (heapNew V _) Try.underlying49 rfl (size_pt _ _ _)) rfl (by first | exact ⟨_, _, _, fun _ => undef, rfl, pts_none _ _ _ _, belNew V _⟩ | exact ⟨_, _, _, rfl, ⟨fun _ => undef, pts_none _ _ _ _⟩, belNew V _⟩)
      · have E : spE len ch = 0 := by unfold spE; rw [if_neg (by omega), if_neg h3]
        obtain ⟨n, rfl⟩ : ∃ n : Nat, ch = n := ⟨ch.toNat, by omega⟩
        unfold spC spA spB spQ
        simp only [E, if_true, Int.toNat_natCast]
        exact rsplit_ok f len n _ V hv hl (by omega) (by omega) (by omega) _ _ rfl rfl
/-- The parts are no longer than the tape. -/
theorem sp_le (len : Nat) (ch : Int) : spC len ch ≤ 64 ∧ spA len ch + spB len ch + spC len ch * spQ len ch ≤ len := by
  unfold spC spA spB spQ
  by_cases E : spE len ch = 0
  · simp only [E, if_true]
    have h0 : ¬ (ch < 1 ∨ 64 < ch) := fun h => by unfold spE at E; rw [if_pos h] at E; omega
    have h1 : ¬ len < 18 := fun h => by unfold spE at E; rw [if_neg h0, if_pos h] at E; omega
    have h2 : ch.toNat * ((len - 18 - (len - 18) / 2) / ch.toNat) ≤ len - 18 - (len - 18) / 2 := Nat.mul_div_le _ _
    omega
  · simp only [if_neg E]
    omega
/-- A row of bytes that may be written into. -/
def ByR (W : World) (g cap N : Nat) : Prop := ∃ cur fz, W.heap[g]? = some (.cells cur 5 fz) ∧ cur.size = cap ∧ N ≤ cap ∧ (∀ j, j < N → ∃ z : Nat, z < 256 ∧ cur[j]? = some (.int .u8 (z : Int))) ∧ (cap ≤ fz.1 ∨ fz.2 = 0)
theorem ByR.on {W W' : World} {g cap N : Nat} (h : ByR W g cap N) (hb : Below W.heap.size W W') : ByR W' g cap N := by
  obtain ⟨cur, fz, h1, h2⟩ := h
  exact ⟨cur, fz, on9 h1 hb, h2⟩
theorem ByR.cell {W : World} {g cap N : Nat} (h : ByR W g cap N) {k : Nat} (hk : k < N) : ∃ z : Nat, z < 256 ∧ W.cell? ⟨g, k, none⟩ = some (.int .u8 (z : Int)) ∧ W.frozen? ⟨g, k, none⟩ = false := by
  obtain ⟨cur, fz, h1, h2, h3, h4, h5⟩ := h
  obtain ⟨z, hz, hc⟩ := h4 k hk
  refine ⟨z, hz, by rw [cell_of_row _ _ _ _ _ _ h1]; exact hc, ?_⟩
  simp [World.frozen?, h1]
  omega
theorem ByR.set {W : World} {g cap N : Nat} (h : ByR W g cap N) (k : Nat) {z : Nat} (hz : z < 256) : ByR (W.setCell ⟨g, k, none⟩ (.int .u8 (z : Int))) g cap N := by
  obtain ⟨cur, fz, h1, h2, h3, h4, h5⟩ := h
  rw [setCell_eq_setRow W g k _ _ _ _ h1]
  refine ⟨_, fz, setRow_heap _ _ _ _ _ _ h1, by rw [Array.size_setIfInBounds]; exact h2, h3, fun j hj => ?_, h5⟩
  rw [Array.getElem?_setIfInBounds]
  by_cases e : k = j
  · rw [if_pos e, if_pos (by omega)]
    exact ⟨z, hz, rfl⟩
  · rw [if_neg e]
    exact h4 j hj
theorem byr_own {W : World} {B n g cap : Nat} {p : Nat → Nat} (h : W.ownsRow B 5 1 (.slice (some ⟨g, 0, none⟩) n cap) n (bytesL n p)) (hp : ∀ j, j < n → p j < 256) : ByR W g cap n := by
  rcases h.2 with ⟨e, _⟩ | ⟨k, c, cur, e, _, hg, h1, h2, h3, h4⟩
  · cases e
  · injection e with e1 _ e2
    injection e1 with e1
    injection e1 with e1 _ _
    subst e1
    subst e2
    refine ⟨cur, (0, 0), hg, by omega, h1, fun j hj => ⟨p j, hp j hj, ?_⟩, Or.inr rfl⟩
    have := bytesL_get n j p hj
    rw [← h4, List.getElem?_take, if_pos (by omega), Array.getElem?_toList] at this
    exact this
theorem byr_om {W : World} {B n g cap : Nat} {p : Nat → Nat} (h : OwnM W B (.slice (some ⟨g, 0, none⟩) n cap) n p) : ByR W g cap n := by
  obtain ⟨k, c, cur, fz, e, _, hg, h1, _, h3, h4, h5, h6⟩ := h
  injection e with e1 _ e2
  injection e1 with e1
  injection e1 with e1 _ _
  subst e1
  subst e2
  exact ⟨cur, fz, hg, h3, h1, fun j hj => ⟨p j, h5 j hj, h4 j hj⟩, h6⟩
theorem execStB9 {o : Oper} {a : Act} {w : World} {x y : Operand} {b k : Nat} {z : Int} {old : Value} (ho : o.op = .store 5 x y) (hx : a.eval x = .pointer (some ⟨b, k, none⟩)) (hy : a.eval y = .int .u8 z) (hc : w.cell? ⟨b, k, none⟩ = some old) (hf : w.frozen? ⟨b, k, none⟩ = false) : (execOp a.eval o).run Try.prog w = .ok .skip (w.setCell ⟨b, k, none⟩ (.int .u8 z)) := by
  unfold execOp
  simp only [ho, hx, hy]
  simp [go_sem, hc, hf]
/-- What stays where blocks of G alone are written into. -/
theorem heap_saved {G : Nat → Prop} {W W' : World} {k : Nat} {c : Obj} (h : W.heap[k]? = some c) (sv : Saved G W W') (hk : ¬ G k) : W'.heap[k]? = some c := by
  rw [sv.block k (Array.getElem?_eq_some_iff.1 h).1 hk]
  exact h
theorem own_saved {G : Nat → Prop} {W W' : World} {B n s : Nat} {v : Value} {xs : List Value} {t : TypeId} (h : W.ownsRow B t s v n xs) (sv : Saved G W W') (hk : ∀ k, v.ownBlock = some k → ¬ G k) : W'.ownsRow B t s v n xs := by
  refine ⟨h.1, ?_⟩
  rcases h.2 with h | ⟨g, cap, cur, e, hB, hg, hr⟩
  · exact Or.inl h
  · exact Or.inr ⟨g, cap, cur, e, hB, heap_saved hg sv (hk g (by rw [e]; rfl)), hr⟩
theorem PtS.saved {G : Nat → Prop} {W W' : World} {B n : Nat} {nv bv cv : Value} {x : Nat → Value} {ln lb lq : Nat} {f : Nat → Nat} (h : PtS W B n nv bv cv x ln lb lq f) (sv : Saved G W W') (h1 : ∀ k, cv.ownBlock = some k → ¬ G k) (h2 : ∀ t, t < 2 + n → ∀ k, (ptX nv bv x t).ownBlock = some k → ¬ G k) : PtS W' B n nv bv cv x ln lb lq f :=
  ⟨own_saved h.own sv h1, ⟨fun t ht => own_saved (h.fam.rows t ht) sv (h2 t ht), h.fam.dis⟩⟩
theorem slice_saved {G : Nat → Prop} {W W' : World} {v : Value} {n : Nat} {p : Nat → Nat} (h : SliceN W v n p) (sv : Saved G W W') (B : Nat) (hv : ∀ a c b o k, v = .slice a n c → a = some ⟨b, o, k⟩ → b < B) (hG : ∀ k, k < B → ¬ G k) : SliceN W' v n p := by
  obtain ⟨⟨a, cap, rfl, h1, h2, h3⟩, hp⟩ := h
  refine ⟨⟨a, cap, rfl, h1, h2, fun h0 => ?_⟩, hp⟩
  obtain ⟨b, off, rfl, hb, hc⟩ := h3 h0
  refine ⟨b, off, rfl, Nat.lt_of_lt_of_le hb sv.size, fun j hj => ?_⟩
  rw [World.cell?_of_block (w := W) (a := ⟨b, off + j, none⟩) (sv.block b hb (hG b (hv _ _ b off none rfl rfl)))]
  exact hc j hj
/-- A block of another type is none of the lists' own. -/
theorem not_gx {W : World} {B m k : Nat} {x : Nat → Value} {nn : Nat → Nat} {ff : Nat → Nat → Nat} {c : Array Value} {t : TypeId} (h : Fam B m x nn ff W) (hk : W.heap[k]? = some (.cells c t)) (ht : t ≠ 5) : ¬ Gx m x k := by
  rintro ⟨s, hs, q⟩
  exact own_ne (h.rows s hs) hk ht q.symm
theorem low_gx {W : World} {B m k : Nat} {x : Nat → Value} {nn : Nat → Nat} {ff : Nat → Nat → Nat} (h : Fam B m x nn ff W) (hk : k < B) : ¬ Gx m x k := by
  rintro ⟨s, hs, q⟩
  have := ((h.rows s hs).lt k q).1
  omega
theorem own_heap {W : World} {B n s : Nat} {v : Value} {xs : List Value} {t : TypeId} (h : W.ownsRow B t s v n xs) {k : Nat} (hk : v.ownBlock = some k) : ∃ c, W.heap[k]? = some (.cells c t) := by
  rcases h.2 with ⟨rfl, _⟩ | ⟨g, cap, cur, rfl, _, hg, _⟩
  · cases hk
  · obtain rfl : g = k := by simpa [Value.ownBlock] using hk
    exact ⟨cur, hg⟩
/-- f, and then 7, 8, 9. -/
def f789 (f : Nat → Nat) (len : Nat) : Nat → Nat := fun j => if j < len then f j else 7 + (j - len)
theorem f789_lo {f : Nat → Nat} {len j : Nat} (h : j < len) : f789 f len j = f j := if_pos h
theorem slice789 {X : World} {g : Nat} (f : Nat → Nat) (len : Nat) (h : X.heap[g]? = some (.cells #[.int .u8 7, .int .u8 8, .int .u8 9] 5)) : SliceN X (.slice (some ⟨g, 0, none⟩) 3 3) 3 (fun j => f789 f len (len + j)) :=
  lit_slice h (fun j hj => by
    match j, hj with
    | 0, _ => unfold f789; rw [if_neg (by omega)]; simp
    | 1, _ => unfold f789; rw [if_neg (by omega)]; simp
    | 2, _ => unfold f789; rw [if_neg (by omega)]; simp
    | k + 3, h => omega) (fun j hj => by unfold f789; rw [if_neg (by omega)]; omega) (by omega)
end Go.Proofs.Ytigkmgoidbamnaa.Tap
