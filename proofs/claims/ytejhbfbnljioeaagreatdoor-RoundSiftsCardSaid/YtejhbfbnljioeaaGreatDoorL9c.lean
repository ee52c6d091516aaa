import Derived.Test.YtejhbfbnljioeaaGreatDoorJ9e
import Derived.Laws.Cover3
namespace Go.Proofs.YtejhbfbnljioeaaGreatDoor.Win
open Go.RowKit Gf8 Aes By8 Cel Cf
/- WindowNames, WindowOpens, WindowAdds, WindowChecks over what the package keeps. Written by tools/mkC9s.py. -/

theorem Eps.cg {W : World} {v : Value} {n : Nat} {nu mu : Nat → Int} {tw : Nat → Value} {ln lm : Nat → Nat} {t : Nat → Nat → Nat → Nat} (h : Eps W v n nu tw ln t) (h1 : ∀ j, j < n → nu j = mu j) (h2 : ∀ j, j < n → ln j = lm j) : Eps W v n mu tw lm t := by
  obtain ⟨⟨a, c, e, q1, q2, q3⟩, hl, hn⟩ := h
  refine ⟨⟨a, c, e, q1, q2, fun h0 => ?_⟩, fun j hj => by rw [← h2 j hj]; exact hl j hj, fun j hj => by rw [← h1 j hj]; exact hn j hj⟩
  obtain ⟨b, o, e1, e2, e3⟩ := q3 h0
  exact ⟨b, o, e1, e2, fun j hj => by rw [← h1 j hj]; exact e3 j hj⟩
section
variable {o : Oper} {a : Act} {w : World}
end
end Go.Proofs.YtejhbfbnljioeaaGreatDoor.Win

namespace Go.Proofs.YtejhbfbnljioeaaGreatDoor.Win
open Go.RowKit Gf8 Aes By8 Cel Cf
/- Right stays right behind Open and Add; scripts of steps. Written by tools/mkC9t.py. -/

structure Stps (W : World) (v : Value) (n : Nat) (pb : Nat → Bool) (ep : Nat → Int) (tw : Nat → Value) (m : Nat → Nat) (tg : Nat → Nat → Nat → Nat) : Prop where
  shape : ∃ a c, v = .slice a n c ∧ n ≤ c ∧ c < 9223372036854775808 ∧ (0 < n → ∃ b o, a = some ⟨b, o, none⟩ ∧ b < W.heap.size ∧ ∀ j, j < n → W.cell? ⟨b, o + j * 3 + 0, none⟩ = some (.bool (pb j)) ∧ W.cell? ⟨b, o + j * 3 + 1, none⟩ = some (.int .i64 (ep j)) ∧ W.cell? ⟨b, o + j * 3 + 2, none⟩ = some (tw j))
  lists : ∀ j, j < n → Tgs W (tw j) (m j) (tg j)
  nums : ∀ j, j < n → I64 (ep j)
  m16 : ∀ j, j < n → m j * 16 ≤ 140737488351232
section
variable {W W' : World} {v : Value} {n : Nat} {pb : Nat → Bool} {ep : Nat → Int} {tw : Nat → Value} {m : Nat → Nat} {tg : Nat → Nat → Nat → Nat}
theorem Stps.on (h : Stps W v n pb ep tw m tg) (hb : Below W.heap.size W W') : Stps W' v n pb ep tw m tg := by
  obtain ⟨⟨a, c, e, h1, h2, h3⟩, hl, hn, hm⟩ := h
  refine ⟨⟨a, c, e, h1, h2, fun h0 => ?_⟩, fun j hj => (hl j hj).on hb, hn, hm⟩
  obtain ⟨b, o, e1, e2, e3⟩ := h3 h0
  exact ⟨b, o, e1, Nat.lt_of_lt_of_le e2 hb.size, fun j hj => ⟨by rw [cell_below hb e2]; exact (e3 j hj).1, by rw [cell_below hb e2]; exact (e3 j hj).2.1, by rw [cell_below hb e2]; exact (e3 j hj).2.2⟩⟩
theorem Stps.shp (h : Stps W v n pb ep tw m tg) : ∃ a c, v = .slice a n c := by
  obtain ⟨a, c, e, _⟩ := h.shape
  exact ⟨a, c, e⟩
theorem Stps.at (h : Stps W v n pb ep tw m tg) (h0 : 0 < n) : ∃ b o c, v = .slice (some ⟨b, o, none⟩) n c ∧ b < W.heap.size ∧ ∀ j, j < n → W.cell? ⟨b, o + j * 3 + 0, none⟩ = some (.bool (pb j)) ∧ W.cell? ⟨b, o + j * 3 + 1, none⟩ = some (.int .i64 (ep j)) ∧ W.cell? ⟨b, o + j * 3 + 2, none⟩ = some (tw j) := by
  obtain ⟨a, c, e, _, _, h3⟩ := h.shape
  obtain ⟨b, o, e1, e2, e3⟩ := h3 h0
  exact ⟨b, o, c, by rw [e, e1], e2, e3⟩
end
section
variable {o : Oper} {a : Act} {w : World}
end
end Go.Proofs.YtejhbfbnljioeaaGreatDoor.Win

namespace Go.Proofs.YtejhbfbnljioeaaGreatDoor.Win
open Go.RowKit Gf8 Aes By8 Cel Cf
/- WindowKeeps: the law's copied. Written by tools/mkL9a.py. -/

/-- Two marks behind a list. -/
def two2 (k : Nat) : Nat → Nat := if k = 0 then (fun _ => 33) else (fun _ => 63)
def mk2 (n : Nat) (t : Nat → Nat → Nat) : Nat → Nat → Nat := catT n t two2
/-- A list of tags in a row of its own that bears two marks behind it. -/
def Mkd (B : Nat) (W : World) (u : Value) (m : Nat) (s : Nat → Nat → Nat) : Prop := ∃ g c, u = .slice (some ⟨g, 0, none⟩) m c ∧ W.ownsRow B 44 16 (.slice (some ⟨g, 0, none⟩) (m + 2) c) (m + 2) (tgV (mk2 m s) (m + 2))
/-- A list of epochs in a row of its own, each list of tags marked. -/
structure CpL (B : Nat) (W : World) (v : Value) (n : Nat) (nu : Nat → Int) (tw : Nat → Value) (ln : Nat → Nat) (t : Nat → Nat → Nat → Nat) : Prop where
  row : W.ownsRow B 70 2 v n (epV nu tw n)
  lists : ∀ j, j < n → Mkd B W (tw j) (ln j) (t j)
  dis : ∀ i j, i < n → j < n → i ≠ j → ∀ b, (tw i).ownBlock = some b → (tw j).ownBlock ≠ some b
section
variable {B n : Nat} {W W' : World} {v : Value} {nu : Nat → Int} {tw : Nat → Value} {ln : Nat → Nat} {t : Nat → Nat → Nat → Nat}
theorem Mkd.on {u : Value} {m : Nat} {s : Nat → Nat → Nat} (h : Mkd B W u m s) (hb : Below W.heap.size W W') : Mkd B W' u m s := by
  obtain ⟨g, c, e, q⟩ := h
  exact ⟨g, c, e, ownE_below q hb⟩
theorem Mkd.base {C : Nat} {u : Value} {m : Nat} {s : Nat → Nat → Nat} (h : Mkd B W u m s) (hC : C ≤ B) : Mkd C W u m s := by
  obtain ⟨g, c, e, q⟩ := h
  exact ⟨g, c, e, ownE_base q hC⟩
theorem Mkd.lt {u : Value} {m : Nat} {s : Nat → Nat → Nat} (h : Mkd B W u m s) : ∀ b, u.ownBlock = some b → B ≤ b ∧ b < W.heap.size := by
  obtain ⟨g, c, rfl, q⟩ := h
  intro b hb
  exact q.lt b hb
theorem Mkd.setT {g : Nat} {c d : Array Value} {u : Value} {m : Nat} {s : Nat → Nat → Nat} {ty : TypeId} (h : Mkd B W u m s) (hg : W.heap[g]? = some (.cells c ty)) (hu : ty ≠ 44) : Mkd B (W.setRow g d) u m s := by
  obtain ⟨k, c2, e, q⟩ := h
  exact ⟨k, c2, e, ownE_setT q hg hu⟩
theorem Mkd.overE {B2 n2 : Nat} {u w : Value} {m : Nat} {s : Nat → Nat → Nat} {ys : List Value} (h : Mkd B W u m s) (hu : W.ownsRow B2 70 2 w n2 ys) (gr : W.grownBy W' w.ownBlock) : Mkd B W' u m s := by
  obtain ⟨k, c2, e, q⟩ := h
  exact ⟨k, c2, e, ownE_over q hu gr (by decide)⟩
theorem CpL.zero (h : W.ownsRow B 70 2 v 0 (epV nu tw 0)) : CpL B W v 0 nu tw ln t := ⟨h, fun j h => absurd h (Nat.not_lt_zero j), fun i _ h => absurd h (Nat.not_lt_zero i)⟩
theorem CpL.on (h : CpL B W v n nu tw ln t) (hb : Below W.heap.size W W') : CpL B W' v n nu tw ln t := ⟨ownE_below h.row hb, fun j hj => (h.lists j hj).on hb, h.dis⟩
theorem CpL.base {C : Nat} (h : CpL B W v n nu tw ln t) (hC : C ≤ B) : CpL C W v n nu tw ln t := ⟨ownE_base h.row hC, fun j hj => (h.lists j hj).base hC, h.dis⟩
theorem CpL.lo (h : CpL B W v n nu tw ln t) : ∀ j, j < n → ∀ b, (tw j).ownBlock = some b → b < W.heap.size := fun j hj b hb => ((h.lists j hj).lt b hb).2
theorem CpL.push {C m : Nat} {v' u : Value} {z : Int} {s : Nat → Nat → Nat} (h : CpL B W v n nu tw ln t) (hu : Mkd C W u m s) (hlo : ∀ j, j < n → ∀ b, (tw j).ownBlock = some b → b < C) (hC : B ≤ C) (own' : W'.ownsRow B 70 2 v' (n + 1) (epV (up nu n z) (up tw n u) (n + 1))) (gr : W.grownBy W' v.ownBlock) : CpL B W' v' (n + 1) (up nu n z) (up tw n u) (up ln n m) (up t n s) := by
  refine ⟨own', fun j hj => ?_, fun i j hi hj hij b hb => ?_⟩
  · by_cases e : j = n
    · subst e
      rw [up_at, up_at, up_at]
      exact (hu.base hC).overE h.row gr
    · rw [up_ne _ _ e, up_ne _ _ e, up_ne _ _ e]
      exact (h.lists j (by omega)).overE h.row gr
  · by_cases e : i = n
    · subst e
      rw [up_at] at hb
      rw [up_ne _ _ (Ne.symm hij)]
      intro q
      have h1 := hlo j (by omega) b q
      have h2 := (hu.lt b hb).1
      omega
    · rw [up_ne _ _ e] at hb
      by_cases e2 : j = n
      · subst e2
        rw [up_at]
        intro q
        have h1 := hlo i (by omega) b hb
        have h2 := (hu.lt b q).1
        omega
      · rw [up_ne _ _ e2]
        exact h.dis i j (by omega) (by omega) hij b hb
end
/-- A copied window: its row bears two epochs more. -/
def CpW (B : Nat) (W : World) (cv : Value) (n : Nat) (nu : Nat → Int) (tw : Nat → Value) (ln : Nat → Nat) (t : Nat → Nat → Nat → Nat) : Prop :=
  ∃ g c, cv = .slice (some ⟨g, 0, none⟩) n c ∧ W.ownsRow B 70 2 (.slice (some ⟨g, 0, none⟩) (n + 2) c) (n + 2) (epV (up (up nu n (-77)) (n + 1) (-78)) (up (up tw n (.slice none 0 0)) (n + 1) (.slice none 0 0)) (n + 2)) ∧ (∀ j, j < n → Mkd B W (tw j) (ln j) (t j)) ∧ ∀ i j, i < n → j < n → i ≠ j → ∀ b, (tw i).ownBlock = some b → (tw j).ownBlock ≠ some b
section
variable {o : Oper} {a : Act} {w : World}
end
theorem two2_byt : ∀ k, k < 2 → ∀ i, i < 16 → two2 k i < 256 := fun k _ i _ => by
  unfold two2
  split
  · exact (by decide : (33 : Nat) < 256)
  · exact (by decide : (63 : Nat) < 256)
theorem CpW.eps {B n : Nat} {W : World} {v : Value} {nu : Nat → Int} {tw : Nat → Value} {ln : Nat → Nat} {t : Nat → Nat → Nat → Nat} (h : CpW B W v n nu tw ln t) (hb : ∀ j, j < n → ∀ k, k < ln j → ∀ i, i < 16 → t j k i < 256) (hn : ∀ j, j < n → I64 (nu j)) : Eps W v n nu tw ln t := by
  obtain ⟨g, c, rfl, hr, hl, _⟩ := h
  have hm : maxLen < 9223372036854775808 := by decide
  rcases hr.2 with ⟨e, _⟩ | ⟨g', cap, cur, e, _, hg, q1, q2, q3, q4⟩
  · cases e
  · injection e with e1 _ e3
    injection e1 with e1
    injection e1 with e1 _ _
    subst e1
    subst e3
    refine ⟨⟨_, _, rfl, by omega, by omega, fun _ => ⟨g, 0, rfl, (Array.getElem?_eq_some_iff.1 hg).1, fun j hj => ?_⟩⟩, fun j hj => ?_, hn⟩
    · have h5 := epV_at (up (up nu n (-77)) (n + 1) (-78)) (up (up tw n (.slice none 0 0)) (n + 1) (.slice none 0 0)) (n + 2) j (by omega)
      rw [← q4, List.getElem?_take_of_lt (by omega), List.getElem?_take_of_lt (by omega), up_ne _ _ (by omega), up_ne _ _ (by omega), up_ne _ _ (by omega), up_ne _ _ (by omega)] at h5
      exact ⟨by rw [cell_of_row _ _ _ _ _ _ hg, Nat.zero_add, ← Array.getElem?_toList]; exact h5.1, by rw [cell_of_row _ _ _ _ _ _ hg, Nat.zero_add, ← Array.getElem?_toList]; exact h5.2⟩
    · obtain ⟨k, d, e5, q⟩ := hl j hj
      have hT := own_tgs q (cat_byt (hb j hj) two2_byt)
      rw [e5]
      obtain ⟨⟨a, c', e6, r1, r2, r3⟩, hp, hz⟩ := hT
      injection e6 with e7 _ e8
      subst e8
      refine ⟨⟨_, _, rfl, by omega, r2, fun h0 => ?_⟩, hb j hj, fun l c e => by cases e⟩
      obtain ⟨b', o', e9, r4, r5⟩ := r3 (by omega)
      refine ⟨b', o', by rw [e7, e9], r4, fun i hi x hx => ?_⟩
      have := r5 i (by omega) x hx
      rw [show mk2 (ln j) (t j) i = t j i from if_pos hi] at this
      exact this
end Go.Proofs.YtejhbfbnljioeaaGreatDoor.Win

namespace Go.Proofs.YtejhbfbnljioeaaGreatDoor.Win
open Go.RowKit Gf8 Aes By8 Cel Cf
/- WindowKeeps: the law's whole. Written by tools/mkL9b.py. -/

theorem CpW.on {B n : Nat} {W W' : World} {v : Value} {nu : Nat → Int} {tw : Nat → Value} {ln : Nat → Nat} {t : Nat → Nat → Nat → Nat} (h : CpW B W v n nu tw ln t) (hb : Below W.heap.size W W') : CpW B W' v n nu tw ln t := by
  obtain ⟨g, c, e, q1, q2, q3⟩ := h
  exact ⟨g, c, e, ownE_below q1 hb, fun j hj => (q2 j hj).on hb, q3⟩
end Go.Proofs.YtejhbfbnljioeaaGreatDoor.Win

namespace Go.Proofs.YtejhbfbnljioeaaGreatDoor.Win
open Go.RowKit Gf8 Aes By8 Cel Cf
/- WindowKeeps: rows of one type, marked and grown, apart from one another. -/

/-- m rows of things of s cells, no two in one block. -/
structure Fr (ty : TypeId) (s B m : Nat) (x : Nat → Value) (nn : Nat → Nat) (c : Nat → List Value) (W : World) : Prop where
  rows : ∀ t, t < m → W.ownsRow B ty s (x t) (nn t) (c t)
  dis : ∀ p q, p < m → q < m → p ≠ q → ∀ b, (x p).ownBlock = some b → (x q).ownBlock ≠ some b
/-- A row of another block, or of another type, stays. -/
theorem ownG {W W' : World} {B n s : Nat} {ty : TypeId} {v : Value} {xs : List Value} {r : Option Nat} (h : W.ownsRow B ty s v n xs) (gr : W.grownBy W' r) (hne : ∀ b, v.ownBlock = some b → r ≠ some b) : W'.ownsRow B ty s v n xs := by
  obtain ⟨h0, h⟩ := h
  refine ⟨h0, ?_⟩
  rcases h with h | ⟨g, cap, cur, e, hB, hg, q⟩
  · exact Or.inl h
  · refine Or.inr ⟨g, cap, cur, e, hB, ?_, q⟩
    rw [gr.block g (Array.getElem?_eq_some_iff.1 hg).1 (fun w => hne g (by rw [e]; rfl) w.symm)]
    exact hg
theorem ownG_T {W W' : World} {B n s g : Nat} {ty u : TypeId} {v : Value} {xs : List Value} {d : Array Value} (h : W.ownsRow B ty s v n xs) (hg : W.heap[g]? = some (.cells d u)) (hu : u ≠ ty) (gr : W.grownBy W' (some g)) : W'.ownsRow B ty s v n xs := by
  refine ownG h gr fun b hb e => ?_
  obtain rfl := Option.some.inj e
  rcases h.2 with ⟨e1, _⟩ | ⟨k, cap, cur, e1, _, hk, _⟩
  · rw [e1] at hb; cases hb
  · rw [e1] at hb
    obtain rfl : k = g := Option.some.inj hb
    exact ne_type hg hk hu rfl
section
variable {ty : TypeId} {s B m : Nat} {x : Nat → Value} {nn : Nat → Nat} {c : Nat → List Value} {W W' : World}
theorem Fr.on (h : Fr ty s B m x nn c W) (hb : Below W.heap.size W W') : Fr ty s B m x nn c W' := ⟨fun t ht => ownE_below (h.rows t ht) hb, h.dis⟩
theorem Fr.over {B2 n2 s2 : Nat} {u : Value} {ys : List Value} {t2 : TypeId} (h : Fr ty s B m x nn c W) (hu : W.ownsRow B2 t2 s2 u n2 ys) (gr : W.grownBy W' u.ownBlock) (ht : ty ≠ t2) : Fr ty s B m x nn c W' := ⟨fun t q => ownE_over (h.rows t q) hu gr ht, h.dis⟩
theorem Fr.cg {c2 : Nat → List Value} (h : Fr ty s B m x nn c W) (e : ∀ t, t < m → c t = c2 t) : Fr ty s B m x nn c2 W := ⟨fun t ht => by rw [← e t ht]; exact h.rows t ht, h.dis⟩
theorem Fr.put {t g : Nat} {z : List Value} (h : Fr ty s B m x nn c W) (ht : t < m) (hg : (x t).ownBlock = some g) (own : W'.ownsRow B ty s (x t) (nn t) z) (gr : W.grownBy W' (some g)) : Fr ty s B m x nn (up c t z) W' := by
  refine ⟨fun q hq => ?_, h.dis⟩
  by_cases e : q = t
  · subst e
    rw [up_at]
    exact own
  · rw [up_ne _ _ e]
    exact ownG (h.rows q hq) gr fun b hb w => h.dis q t hq ht e b hb (by rw [hg, w])
end
/-- What rows x have grown to, y: in x's own room or apart; no block in two groups. -/
structure Gr (ty : TypeId) (s B m : Nat) (x y : Nat → Value) (nn dd : Nat → Nat) (c d : Nat → List Value) (W : World) : Prop where
  rx : ∀ t, t < m → W.ownsRow B ty s (x t) (nn t) (c t)
  ry : ∀ t, t < m → W.ownsRow B ty s (y t) (nn t + dd t) (c t ++ d t)
  pl : ∀ t, t < m → (∃ g k, x t = .slice (some ⟨g, 0, none⟩) (nn t) k ∧ y t = .slice (some ⟨g, 0, none⟩) (nn t + dd t) k) ∨ ∀ b, (y t).ownBlock = some b → (x t).ownBlock ≠ some b
  dis : ∀ p q, p < m → q < m → p ≠ q → ∀ b, ((x p).ownBlock = some b ∨ (y p).ownBlock = some b) → ¬ ((x q).ownBlock = some b ∨ (y q).ownBlock = some b)
theorem slc_inj {g g' n n' c c' : Nat} (h : Value.slice (some ⟨g, 0, none⟩) n c = .slice (some ⟨g', 0, none⟩) n' c') : g = g' ∧ c = c' := by
  injection h with h1 _ h3
  injection h1 with h1
  injection h1 with h1 _ _
  exact ⟨h1, h3⟩
/-- The first things of a row. -/
theorem own_pre {W : World} {B g n k cap s : Nat} {ty : TypeId} {xs ys : List Value} (h : W.ownsRow B ty s (.slice (some ⟨g, 0, none⟩) n cap) n (xs ++ ys)) (hx : xs.length = k * s) (hk : k ≤ n) : W.ownsRow B ty s (.slice (some ⟨g, 0, none⟩) k cap) k xs := by
  refine ⟨hx, ?_⟩
  rcases h.2 with ⟨e, _⟩ | ⟨g', cap', cur, e, hB, hg, q1, q2, q3, q4⟩
  · cases e
  · obtain ⟨rfl, rfl⟩ := slc_inj e
    refine Or.inr ⟨g, cap, cur, rfl, hB, hg, by omega, q2, q3, ?_⟩
    have h5 := congrArg (List.take (k * s)) q4
    rw [List.take_take, Nat.min_eq_left (Nat.mul_le_mul_right s hk), ← hx, List.take_left] at h5
    rw [← hx]
    exact h5
section
variable {ty : TypeId} {s B m : Nat} {x y : Nat → Value} {nn dd : Nat → Nat} {c d : Nat → List Value} {W W' : World}
theorem Gr.on (h : Gr ty s B m x y nn dd c d W) (hb : Below W.heap.size W W') : Gr ty s B m x y nn dd c d W' := ⟨fun t ht => ownE_below (h.rx t ht) hb, fun t ht => ownE_below (h.ry t ht) hb, h.pl, h.dis⟩
theorem Gr.over {B2 n2 s2 : Nat} {u : Value} {ys : List Value} {t2 : TypeId} (h : Gr ty s B m x y nn dd c d W) (hu : W.ownsRow B2 t2 s2 u n2 ys) (gr : W.grownBy W' u.ownBlock) (ht : ty ≠ t2) : Gr ty s B m x y nn dd c d W' := ⟨fun t q => ownE_over (h.rx t q) hu gr ht, fun t q => ownE_over (h.ry t q) hu gr ht, h.pl, h.dis⟩
theorem Gr.cg {dd2 : Nat → Nat} {d2 : Nat → List Value} (h : Gr ty s B m x y nn dd c d W) (e : ∀ t, t < m → dd t = dd2 t) (e2 : ∀ t, t < m → d t = d2 t) : Gr ty s B m x y nn dd2 c d2 W :=
  ⟨h.rx, fun t ht => by rw [← e t ht, ← e2 t ht]; exact h.ry t ht, fun t ht => by rw [← e t ht]; exact h.pl t ht, h.dis⟩
theorem Gr.blt (h : Gr ty s B m x y nn dd c d W) {t b : Nat} (ht : t < m) (e : (x t).ownBlock = some b ∨ (y t).ownBlock = some b) : B ≤ b ∧ b < W.heap.size := by
  rcases e with e | e
  · exact (h.rx t ht).lt b e
  · exact (h.ry t ht).lt b e
/-- One of them has grown. -/
theorem Gr.more {t k : Nat} {v' : Value} {z : List Value} (h : Gr ty s B m x y nn dd c d W) (ht : t < m) (own : W'.ownsRow B ty s v' (nn t + dd t + k) (c t ++ d t ++ z))
    (hpl : (∃ b r, y t = .slice (some ⟨b, 0, none⟩) (nn t + dd t) r ∧ v' = .slice (some ⟨b, 0, none⟩) (nn t + dd t + k) r ∧ W.grownBy W' (some b)) ∨ (Below W.heap.size W W' ∧ ∀ k, v'.ownBlock = some k → W.heap.size ≤ k)) :
    Gr ty s B m x (up y t v') nn (up dd t (dd t + k)) c (up d t (d t ++ z)) W' := by
  have own : W'.ownsRow B ty s v' (nn t + (dd t + k)) (c t ++ (d t ++ z)) := by rw [← Nat.add_assoc, ← List.append_assoc]; exact own
  rcases hpl with ⟨b, r, e1, e2, gr⟩ | ⟨hb, hk⟩
  · have e2 : v' = .slice (some ⟨b, 0, none⟩) (nn t + (dd t + k)) r := by rw [e2, Nat.add_assoc]
    have hyb : (y t).ownBlock = some b := by rw [e1]; rfl
    have hvb : v'.ownBlock = some b := by rw [e2]; rfl
    have gx : ∀ q, q < m → q ≠ t → W'.ownsRow B ty s (x q) (nn q) (c q) := fun q hq hqt => ownG (h.rx q hq) gr (fun z e w => h.dis q t hq ht hqt z (Or.inl e) (Or.inr (hyb.trans w)))
    have gy : ∀ q, q < m → q ≠ t → W'.ownsRow B ty s (y q) (nn q + dd q) (c q ++ d q) := fun q hq hqt => ownG (h.ry q hq) gr (fun z e w => h.dis q t hq ht hqt z (Or.inr e) (Or.inr (hyb.trans w)))
    refine ⟨fun q hq => ?_, fun q hq => ?_, fun q hq => ?_, fun p q hp hq hpq z e w => ?_⟩
    · by_cases e : q = t
      · subst e
        rcases h.pl q hq with ⟨g, r', f1, f2⟩ | hp
        · obtain ⟨rfl, rfl⟩ := slc_inj (e1.symm.trans f2)
          rw [e2] at own
          rw [f1]
          exact own_pre own (h.rx q hq).1 (by omega)
        · exact ownG (h.rx q hq) gr (fun z e w => hp z (hyb.trans w) e)
      · exact gx q hq e
    · by_cases e : q = t
      · subst e
        rw [up_at, up_at, up_at]
        exact own
      · rw [up_ne _ _ e, up_ne _ _ e, up_ne _ _ e]
        exact gy q hq e
    · by_cases e : q = t
      · subst e
        rw [up_at, up_at]
        rcases h.pl q hq with ⟨g, r', f1, f2⟩ | hp
        · obtain ⟨rfl, rfl⟩ := slc_inj (e1.symm.trans f2)
          exact Or.inl ⟨b, r, f1, e2⟩
        · exact Or.inr fun z w => hp z (hyb.trans (hvb.symm.trans w))
      · rw [up_ne _ _ e, up_ne _ _ e]
        exact h.pl q hq
    · have e' : (x p).ownBlock = some z ∨ (y p).ownBlock = some z := by
        by_cases ep : p = t
        · subst ep
          rw [up_at] at e
          exact e.imp id fun w => hyb.trans (hvb.symm.trans w)
        · rw [up_ne _ _ ep] at e
          exact e
      have w' : (x q).ownBlock = some z ∨ (y q).ownBlock = some z := by
        by_cases eq : q = t
        · subst eq
          rw [up_at] at w
          exact w.imp id fun w => hyb.trans (hvb.symm.trans w)
        · rw [up_ne _ _ eq] at w
          exact w
      exact h.dis p q hp hq hpq z e' w'
  · have ho := h.on hb
    have nw : ∀ q, q < m → ∀ z, ((x q).ownBlock = some z ∨ (y q).ownBlock = some z) → v'.ownBlock ≠ some z := fun q hq z e w => by
      have a1 := hk z w
      have a2 := (h.blt hq e).2
      omega
    refine ⟨ho.rx, fun q hq => ?_, fun q hq => ?_, fun p q hp hq hpq z e w => ?_⟩
    · by_cases e : q = t
      · subst e
        rw [up_at, up_at, up_at]
        exact own
      · rw [up_ne _ _ e, up_ne _ _ e, up_ne _ _ e]
        exact ho.ry q hq
    · by_cases e : q = t
      · subst e
        rw [up_at]
        exact Or.inr fun z w u => nw q hq z (Or.inl u) w
      · rw [up_ne _ _ e, up_ne _ _ e]
        exact h.pl q hq
    · by_cases ep : p = t
      · subst ep
        rw [up_at] at e
        rw [up_ne _ _ (fun u => hpq u.symm)] at w
        rcases e with e | e
        · exact h.dis p q hp hq hpq z (Or.inl e) w
        · exact nw q hq z w e
      · rw [up_ne _ _ ep] at e
        by_cases eq : q = t
        · subst eq
          rw [up_at] at w
          rcases w with w | w
          · exact h.dis p q hp hq hpq z e (Or.inl w)
          · exact nw p hp z e w
        · rw [up_ne _ _ eq] at w
          exact h.dis p q hp hq hpq z e w
end
end Go.Proofs.YtejhbfbnljioeaaGreatDoor.Win
