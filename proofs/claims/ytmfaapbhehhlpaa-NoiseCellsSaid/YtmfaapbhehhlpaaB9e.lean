import Derived.Test.YtmfaapbhehhlpaaQ9b
import Derived.Test.YtmfaapbhehhlpaaF9b
import Derived.Test.YtmfaapbhehhlpaaB9c
import Derived.Laws.Concat
namespace Go.Proofs.Ytmfaapbhehhlpaa.Brd
open Go.RowKit Gf8 Aes By8 Cel Cf Tap Drw Prm
/- What lies while the law's apart goes on. -/

/-- The blocks of the lists. -/
def GxI (m : Nat) (x : Nat → Value) (b : Nat) : Prop := ∃ t, t < m ∧ (x t).ownBlock = some b
/-- Lists being marked. -/
structure A0 (U V W : World) (m : Nat) (x : Nat → Value) (nn : Nat → Nat) (fx : Nat → Nat → Int) (gl : Nat) (C : Array Value) : Prop where
  bel : Below U.heap.size U W
  fam : FmI U.heap.size m x nn fx W
  li : W.heap[gl]? = some (.cells C 23)
  sv : Saved (GxI m x) V W
/-- Lists that have grown. -/
structure AS (U V W : World) (m : Nat) (x y : Nat → Value) (nn dd : Nat → Nat) (fx fy : Nat → Nat → Int) (gl : Nat) (C : Array Value) : Prop where
  bel : Below U.heap.size U W
  gp : Gp U.heap.size m x y nn dd fx fy W
  li : W.heap[gl]? = some (.cells C 23)
  sv : Saved (GxI m x) V W
  yb : ∀ t, t < m → ∀ b, (y t).ownBlock = some b → (x t).ownBlock = some b ∨ V.heap.size ≤ b
section
variable {U V W W' : World} {m gl : Nat} {x y : Nat → Value} {nn dd : Nat → Nat} {fx fy : Nat → Nat → Int} {C : Array Value}
theorem A0.on (h : A0 U V W m x nn fx gl C) (b : Below W.heap.size W W') : A0 U V W' m x nn fx gl C := ⟨h.bel.trans (b.mono h.bel.size), h.fam.on b, on9 h.li b, h.sv.below b h.sv.size⟩
theorem A0.cell (h : A0 U V W m x nn fx gl C) {t : Nat} {v : Value} (hC : C[t]? = some v) : W.cell? ⟨gl, 0 + t, none⟩ = some v := by
  rw [cell_of_row _ _ _ _ _ _ h.li, Nat.zero_add]
  exact hC
theorem A0.set {t g c j : Nat} (h : A0 U V W m x nn fx gl C) (ht : t < m) (e : x t = .slice (some ⟨g, 0, none⟩) (nn t) c) (z : Int) : A0 U V (W.setCell ⟨g, 0 + j, none⟩ (.int .i64 z)) m x nn (updF fx t j z) gl C := by
  have h1 := h.fam.rows t ht
  rw [e] at h1
  obtain ⟨cur, hg, hB⟩ := own_cur h1
  refine ⟨h.bel.setCell hB _, h.fam.set ht e z, ?_, h.sv.cell _ (Or.inr ⟨t, ht, by rw [e]; rfl⟩)⟩
  rw [Below.heap_setCell _ _ _ _ (fun q => by
    have q2 : gl = g := q
    have h3 := h.li
    rw [q2, hg] at h3
    injection h3 with h3
    injection h3 with _ h3 _
    exact absurd h3 (by decide))]
  exact h.li
theorem AS.on (h : AS U V W m x y nn dd fx fy gl C) (b : Below W.heap.size W W') : AS U V W' m x y nn dd fx fy gl C := ⟨h.bel.trans (b.mono h.bel.size), h.gp.on b, on9 h.li b, h.sv.below b h.sv.size, h.yb⟩
theorem AS.cell (h : AS U V W m x y nn dd fx fy gl C) {t : Nat} {v : Value} (hC : C[t]? = some v) : W.cell? ⟨gl, 0 + t, none⟩ = some v := by
  rw [cell_of_row _ _ _ _ _ _ h.li, Nat.zero_add]
  exact hC
theorem A0.begin (h : A0 U V W m x nn fx gl C) : AS U V W m x x nn (fun _ => 0) fx fx gl C := ⟨h.bel, Gp.begin h.fam, h.li, h.sv, fun _ _ _ e => Or.inl e⟩
/-- A row of ints made behind all, outside of the groups, is written. -/
theorem AS.setT {g k : Nat} {c : Array Value} {z : Value} (h : AS U V W m x y nn dd fx fy gl C) (hg : W.heap[g]? = some (.cells c 3)) (hne : ∀ t, t < m → ¬ ((x t).ownBlock = some g ∨ (y t).ownBlock = some g)) (hU : U.heap.size ≤ g) (hV : V.heap.size ≤ g) : AS U V (W.setCell ⟨g, k, none⟩ z) m x y nn dd fx fy gl C := by
  refine ⟨h.bel.setCell hU _, ⟨fun t ht => own_offB (h.gp.rx t ht) (fun q => hne t ht (Or.inl q)), fun t ht => own_offB (h.gp.ry t ht) (fun q => hne t ht (Or.inr q)), h.gp.lo, h.gp.pl, h.gp.dis⟩, ?_, h.sv.cell _ (Or.inl hV), h.yb⟩
  rw [Below.heap_setCell _ _ _ _ (fun q => by
    have q2 : gl = g := q
    have h3 := h.li
    rw [q2, hg] at h3
    injection h3 with h3
    injection h3 with _ h3 _
    exact absurd h3 (by decide))]
  exact h.li
/-- One of them has grown: what else lay there still lies. -/
theorem AS.more {t k : Nat} {v' : Value} {q : Nat → Int} (h : AS U V W m x y nn dd fx fy gl C) (ht : t < m) (own : W'.ownsRow U.heap.size 3 1 v' (nn t + dd t + k) (intsL (nn t + dd t + k) (catI (nn t + dd t) (fy t) q)))
    (hpl : (∃ b c, y t = .slice (some ⟨b, 0, none⟩) (nn t + dd t) c ∧ v' = .slice (some ⟨b, 0, none⟩) (nn t + dd t + k) c ∧ W.grownBy W' (some b)) ∨ (Below W.heap.size W W' ∧ ∀ k, v'.ownBlock = some k → W.heap.size ≤ k)) :
    AS U V W' m x (updX y t v') nn (updD dd t k) fx (updG fy t (catI (nn t + dd t) (fy t) q)) gl C := by
  have hg := h.gp.more ht own hpl
  rcases hpl with ⟨b, c, e1, e2, gr⟩ | ⟨hb, hk⟩
  · have hyb : (y t).ownBlock = some b := by rw [e1]; rfl
    have hvb : v'.ownBlock = some b := by rw [e2]; rfl
    have gr2 : W.grownBy W' (y t).ownBlock := by rw [hyb]; exact gr
    refine ⟨h.bel.grown gr h.bel.size (fun z e => by rw [← Option.some.inj e]; exact ((h.gp.ry t ht).lt b hyb).1), hg, heap_overL (h.gp.ry t ht) gr2 h.li (by decide), h.sv.grown gr (fun z e => ?_), fun s hs z e => ?_⟩
    · rw [← Option.some.inj e]
      exact (h.yb t ht b hyb).elim (fun w => Or.inr ⟨t, ht, w⟩) Or.inl
    · by_cases es : s = t
      · subst es
        rw [show updX y s v' s = v' from if_pos rfl, hvb] at e
        rw [← Option.some.inj e]
        exact h.yb s hs b hyb
      · rw [show updX y t v' s = y s from if_neg es] at e
        exact h.yb s hs z e
  · have ho := h.on hb
    refine ⟨ho.bel, hg, ho.li, ho.sv, fun s hs z e => ?_⟩
    by_cases es : s = t
    · subst es
      rw [show updX y s v' s = v' from if_pos rfl] at e
      exact Or.inr (Nat.le_trans h.sv.size (hk z e))
    · rw [show updX y t v' s = y s from if_neg es] at e
      exact h.yb s hs z e
end
end Go.Proofs.Ytmfaapbhehhlpaa.Brd

namespace Go.Proofs.Ytmfaapbhehhlpaa.Brd
open Go.RowKit Gf8 Aes By8 Cel Cf Tap Drw Prm
/- Several rows of ints of one's own, each appended to in its turn. -/

section
variable {B k : Nat} {x : Nat → Value} {nn : Nat → Nat} {ff : Nat → Nat → Int} {W W' : World}
/-- One of the rows has grown. -/
theorem FmI.push {t l : Nat} {v' : Value} {q : Nat → Int} (h : FmI B k x nn ff W) (ht : t < k) (own : W'.ownsRow B 3 1 v' (nn t + l) (intsL (nn t + l) (catI (nn t) (ff t) q)))
    (hpl : (∃ b c, x t = .slice (some ⟨b, 0, none⟩) (nn t) c ∧ v' = .slice (some ⟨b, 0, none⟩) (nn t + l) c ∧ W.grownBy W' (some b)) ∨ (Below W.heap.size W W' ∧ ∀ k, v'.ownBlock = some k → W.heap.size ≤ k)) :
    FmI B k (updX x t v') (updD nn t l) (updG ff t (catI (nn t) (ff t) q)) W' := by
  have xo : ∀ s, s ≠ t → updX x t v' s = x s := fun s hs => if_neg hs
  have xt : updX x t v' t = v' := if_pos rfl
  have no : ∀ s, s ≠ t → updD nn t l s = nn s := fun s hs => if_neg hs
  have nt : updD nn t l t = nn t + l := if_pos rfl
  have fo : ∀ s, s ≠ t → updG ff t (catI (nn t) (ff t) q) s = ff s := fun s hs => if_neg hs
  have ft : updG ff t (catI (nn t) (ff t) q) t = catI (nn t) (ff t) q := if_pos rfl
  rcases hpl with ⟨b, c, e1, e2, gr⟩ | ⟨hb, hk⟩
  · have hxb : (x t).ownBlock = some b := by rw [e1]; rfl
    have hvb : v'.ownBlock = some b := by rw [e2]; rfl
    refine ⟨fun s hs => ?_, fun s u hs hu hsu z e w => ?_⟩
    · by_cases e : s = t
      · subst e
        rw [xt, nt, ft]
        exact own
      · rw [xo s e, no s e, fo s e]
        exact ownW_grown (h.rows s hs) gr (fun z e2 w => h.dis s t hs ht e z e2 (hxb.trans w))
    · have e' : (x s).ownBlock = some z := by
        by_cases es : s = t
        · subst es
          rw [xt] at e
          exact hxb.trans (hvb.symm.trans e)
        · rw [xo s es] at e
          exact e
      have w' : (x u).ownBlock = some z := by
        by_cases eu : u = t
        · subst eu
          rw [xt] at w
          exact hxb.trans (hvb.symm.trans w)
        · rw [xo u eu] at w
          exact w
      exact h.dis s u hs hu hsu z e' w'
  · have ho := h.on hb
    refine ⟨fun s hs => ?_, fun s u hs hu hsu z e w => ?_⟩
    · by_cases e : s = t
      · subst e
        rw [xt, nt, ft]
        exact own
      · rw [xo s e, no s e, fo s e]
        exact ho.rows s hs
    · by_cases es : s = t
      · subst es
        rw [xt] at e
        rw [xo u (fun q => hsu q.symm)] at w
        have a1 := hk z e
        have a2 := ((h.rows u hu).lt z w).2
        omega
      · rw [xo s es] at e
        by_cases eu : u = t
        · subst eu
          rw [xt] at w
          have a1 := hk z w
          have a2 := ((h.rows s hs).lt z e).2
          omega
        · rw [xo u eu] at w
          exact h.dis s u hs hu hsu z e w
end
end Go.Proofs.Ytmfaapbhehhlpaa.Brd

namespace Go.Proofs.Ytmfaapbhehhlpaa.Noi
open Go.RowKit Gf8 Aes By8 Cel Cf Tap Drw Prm Brd
/- Stage 15's Impl; same, awake, NoiseTables. Written by tools/mkB9d.py. -/

abbrev I64 (z : Int) : Prop := -9223372036854775808 ≤ z ∧ z < 9223372036854775808
/-- What the program's package keeps. -/
structure Impl : Prop where
  table : ∀ (na nd nm : Int) (V : World), I64 na → I64 nd → I64 nm → Calls Try.prog 10 #[.int .i64 na, .int .i64 nd, .int .i64 nm] V fun e w' => ∃ r, e = .returned (.tuple #[r, .int .i64 ((tbE na nd nm : Nat) : Int)]) ∧ w'.ownsRow V.heap.size 3 1 r (zl (tbE na nd nm) (nm.toNat + 1)) (intsL (zl (tbE na nd nm) (nm.toNat + 1)) (tbF na nd nm)) ∧ Below V.heap.size V w'
  count : ∀ (p : Nat → Nat) (L : Nat) (na nd nm : Int) (pv : Value) (V : World), SliceN V pv L p → L ≤ 140737488351232 → I64 na → I64 nd → I64 nm → Calls Try.prog 13 #[pv, .int .i64 na, .int .i64 nd, .int .i64 nm] V fun e w' => e = .returned (.tuple #[.int .i64 ((zl (ctE L na nd nm) (ctN p na nd nm) : Nat) : Int), .int .i64 ((ctE L na nd nm : Nat) : Int)]) ∧ Below V.heap.size V w'
  cells : ∀ (p : Nat → Nat) (L : Nat) (nc nl : Int) (pv : Value) (V : World), SliceN V pv L p → L ≤ 140737488351232 → I64 nc → I64 nl → Calls Try.prog 14 #[pv, .int .i64 nc, .int .i64 nl] V fun e w' => ∃ r y, e = .returned (.tuple #[r, .int .i64 ((clE L nc nl : Nat) : Int)]) ∧ w'.ownsRow V.heap.size 31 1 r (zl (clE L nc nl) nc.toNat) (lL y (zl (clE L nc nl) nc.toNat)) ∧ Fam V.heap.size (zl (clE L nc nl) nc.toNat) y (fun _ => 320) (clC p nl.toNat) w' ∧ Below V.heap.size V w'
/-- The plain table. -/
def aw4 (j : Nat) : Int := if j = 0 then 34952 else if j = 1 then 52428 else if j = 2 then 61166 else 65536
section
variable {o : Oper} {a : Act} {w : World}
end
end Go.Proofs.Ytmfaapbhehhlpaa.Noi

namespace Go.Proofs.Ytmfaapbhehhlpaa.Noi
open Go.RowKit Gf8 Aes By8 Cel Cf Tap Drw Prm Brd
/- NoiseCounts. Written by tools/mkB9e.py. -/

/-- The cells of an Ask; a tape with room. -/
def anC (pv : Value) (a d m c l : Int) : Array Value := #[pv, .int .i64 a, .int .i64 d, .int .i64 m, .int .i64 c, .int .i64 l]
def pY (p : Nat → Nat) (L j : Nat) : Nat := if j < L then p j else if j = L then 1 else 2
section
variable {p : Nat → Nat} {L : Nat}
theorem pY_lo {j : Nat} (h : j < L) : pY p L (0 + j) = p j := by
  rw [Nat.zero_add]
  exact if_pos h
theorem pY_byte (hp : ∀ j, j < L → p j < 256) (j : Nat) : pY p L j < 256 := by
  unfold pY
  by_cases h : j < L
  · rw [if_pos h]; exact hp j h
  · rw [if_neg h]
    by_cases h2 : j = L
    · rw [if_pos h2]; decide
    · rw [if_neg h2]; decide
theorem pY_L : pY p L L = 1 := by
  unfold pY
  rw [if_neg (by omega), if_pos rfl]
theorem pY_L1 : pY p L (L + 1) = 2 := by
  unfold pY
  rw [if_neg (by omega), if_neg (by omega)]
theorem pY_two (X : World) (p : Nat → Nat) (L : Nat) : SliceN (X.alloc (.cells #[.int .u8 1, .int .u8 2] 5)) (.slice (some ⟨X.heap.size, 0, none⟩) 2 2) 2 (fun j => pY p L (0 + L + j)) := by
  have e0 : pY p L (0 + L + 0) = 1 := by rw [Nat.zero_add, Nat.add_zero]; exact pY_L
  have e1 : pY p L (0 + L + 1) = 2 := by rw [Nat.zero_add]; exact pY_L1
  refine ⟨⟨_, _, rfl, Nat.le_refl _, by omega, fun _ => ⟨X.heap.size, 0, rfl, by simp, fun j hj => ?_⟩⟩, fun j hj => ?_⟩
  · rw [cell_of_row _ _ _ _ _ _ (heapNew X _)]
    match j, hj with
    | 0, _ => rw [e0]; rfl
    | 1, _ => rw [e1]; rfl
    | j + 2, h => omega
  · match j, hj with
    | 0, _ => rw [e0]; decide
    | 1, _ => rw [e1]; decide
    | j + 2, h => omega
theorem strN_two : strN p L ++ ⟨#[1, 2]⟩ = strN (pY p L) (L + 2) := by
  have e : numL (pY p L) (L + 2) = numL p L ++ [1, 2] := by
    unfold numL
    rw [List.range_add, List.map_append, List.map_map]
    congr 1
    · apply List.map_congr_left
      intro i hi
      rw [show pY p L i = p i from if_pos (List.mem_range.1 hi)]
    · show [((pY p L (L + 0) : Nat) : Int), ((pY p L (L + 1) : Nat) : Int)] = [1, 2]
      rw [Nat.add_zero, pY_L, pY_L1]
      rfl
  unfold strN
  rw [e]
  unfold strOfNums
  rw [List.map_append]
  exact ByteArray.mk_append_mk _ [1, 2]
end
theorem own_room {W : World} {B n g c : Nat} {t : TypeId} {xs : List Value} (h : W.ownsRow B t 1 (.slice (some ⟨g, 0, none⟩) n c) n xs) : n ≤ c := by
  rcases h.2 with ⟨e, _⟩ | ⟨g', c', cur, e, _, _, h1, _⟩
  · cases e
  · injection e with _ _ e3
    omega
theorem own_take8 {W : World} {B n i g c : Nat} {f : Nat → Nat} (h : W.ownsRow B 5 1 (.slice (some ⟨g, 0, none⟩) n c) n (bytesL n f)) (hi : i ≤ n) : W.ownsRow B 5 1 (.slice (some ⟨g, 0, none⟩) i c) i (bytesL i f) := by
  rcases h.2 with ⟨e, _⟩ | ⟨g', c', cur, e, hB, hg, h1, h2, h3, h4⟩
  · cases e
  · injection e with e1 _ e3
    injection e1 with e1
    injection e1 with e1 _ _
    subst e1
    subst e3
    refine ⟨by rw [bytesL_len, Nat.mul_one], Or.inr ⟨g, c, cur, rfl, hB, hg, by omega, h2, h3, ?_⟩⟩
    rw [Nat.mul_one] at h4 ⊢
    have h5 : cur.toList.take i = (cur.toList.take n).take i := by rw [List.take_take, Nat.min_eq_left hi]
    rw [h5, h4]
    unfold bytesL
    rw [← List.map_take, List.take_range, Nat.min_eq_left hi]
theorem ip_slice {W : World} {B L g c : Nat} {v : Value} {p : Nat → Nat} (e : v = .slice (some ⟨g, 0, none⟩) (L + 2) c) (h : W.ownsRow B 5 1 v (L + 2) (bytesL (L + 2) (pY p L))) (hp : ∀ j, j < L → p j < 256) : SliceN W (.slice (some ⟨g, 0, none⟩) L c) L p := by
  subst e
  exact sliceN_cg (own_slice (own_take8 h (by omega)) (fun j _ => pY_byte hp j)) (fun j hj => if_pos hj)
section
variable {W : World} {g : Nat} {pv : Value} {a d m c l : Int} {t : TypeId}
theorem an_at0 (h : W.heap[g]? = some (.cells (anC pv a d m c l) t)) : W.cell? ⟨g, 0, none⟩ = some pv := by rw [cell_of_row _ _ _ _ _ _ h]; rfl
theorem an_at4 (h : W.heap[g]? = some (.cells (anC pv a d m c l) t)) : W.cell? ⟨g, 4, none⟩ = some (.int .i64 c) := by rw [cell_of_row _ _ _ _ _ _ h]; rfl
theorem an_at5 (h : W.heap[g]? = some (.cells (anC pv a d m c l) t)) : W.cell? ⟨g, 5, none⟩ = some (.int .i64 l) := by rw [cell_of_row _ _ _ _ _ _ h]; rfl
end
section
variable {o : Oper} {a : Act} {w : World}
theorem execBoxAn {x : Operand} {pv : Value} {b d m c l : Int} (ho : o.op = .box 33 x) (hx : a.eval x = .agg (anC pv b d m c l)) : (execOp a.eval o).run Try.prog w = .ok (.value (.pointer (some ⟨w.heap.size, 0, none⟩))) (w.alloc (.cells (anC pv b d m c l) 33)) := by
  unfold execOp
  simp only [ho, hx]
  simp [go_sem, anC]
theorem execFldAn {x : Operand} {b k : Nat} (ho : o.op = .fieldAddr 33 x k) (hx : a.eval x = .pointer (some ⟨b, 0, none⟩)) (hk : Nat.blt k 6 = true) : (execOp a.eval o).run Try.prog w = .ok (.value (.pointer (some ⟨b, k, none⟩))) w := by
  match k, hk with
  | 0, _ => unfold execOp; simp only [ho, hx]; simp [go_sem]
  | 1, _ => unfold execOp; simp only [ho, hx]; simp [go_sem]
  | 2, _ => unfold execOp; simp only [ho, hx]; simp [go_sem]
  | 3, _ => unfold execOp; simp only [ho, hx]; simp [go_sem]
  | 4, _ => unfold execOp; simp only [ho, hx]; simp [go_sem]
  | 5, _ => unfold execOp; simp only [ho, hx]; simp [go_sem]
  | k + 6, h => exact absurd h (by simp)
theorem execCat2 {x : Operand} {p : Nat → Nat} {L : Nat} (ho : o.op = .binOp .add 9 x (.const (.string ⟨#[1, 2]⟩)) 9) (hx : a.eval x = .string (strN p L)) (hL : L ≤ 140737488355328) : (execOp a.eval o).run Try.prog w = .ok (.value (.string (strN (pY p L) (L + 2)))) w := by
  have hc : a.eval (.const (.string ⟨#[1, 2]⟩)) = .string ⟨#[1, 2]⟩ := rfl
  have hr := run_string_add_sum (P := Try.prog) w (strN p L) ⟨#[1, 2]⟩ (by rw [strN_size]; show L + 2 ≤ _; omega)
  rw [strN_two] at hr
  unfold execOp
  simp only [ho, hx, hc]
  simp [go_sem, hr]
end
end Go.Proofs.Ytmfaapbhehhlpaa.Noi
