import Derived.Test.YthmlfglllhmimaaGreatDoorV8b
import Derived.Test.YthmlfglllhmimaaGreatDoorB7f
import Derived.Test.YthmlfglllhmimaaGreatDoorX5c
import Derived.Test.YthmlfglllhmimaaGreatDoorC6
import Derived.Test.YthmlfglllhmimaaGreatDoorZ1
import Derived.Test.YthmlfglllhmimaaGreatDoorI3
import Derived.Test.YthmlfglllhmimaaGreatDoorI2
import Derived.Test.YthmlfglllhmimaaGreatDoorY3
import Derived.Test.YthmlfglllhmimaaGreatDoorX7f
import Derived.Test.YthmlfglllhmimaaGreatDoorB7c
import Derived.Test.YthmlfglllhmimaaGreatDoorV9l
import Derived.Lib.Bytes
import Derived.Deep.RegionWith
namespace Go.Proofs.YthmlfglllhmimaaGreatDoor.Cas
open Go.RowKit Gf8 Aes By8 Cel Cf Tap Drw Dro Oni Rou
/- The reference's Submit. Written by tools/mkC8a.py. -/

/-- The first error of the keys of these masters. -/
def kyE (lk : Nat → Nat) (ep : Int) : Nat → Nat
  | 0 => 0
  | k + 1 => if kyE lk ep k = 0 then rkE (lk k) ep else kyE lk ep k
/-- What Submit answers. -/
def suE (h hn : Nat) (lk : Nat → Nat) (ep : Int) (n : Nat) : Nat := if kyE lk ep h = 0 then rwE h hn (fun _ => 32) n else kyE lk ep h
def suN (h hn : Nat) (lk : Nat → Nat) (ep : Int) (n : Nat) : Nat := if suE h hn lk ep n = 0 then 320 else 0
def suF (h : Nat) (mk : Nat → Nat → Nat) (ep : Int) (q : Nat → Nat → Nat) (n : Nat) (p : Nat → Nat) : Nat → Nat := rwF h (fun i => rk (mk i) ep.toNat) q n p
theorem ky_stop {lk : Nat → Nat} {ep : Int} {i : Nat} (h0 : kyE lk ep i = 0) (h1 : rkE (lk i) ep ≠ 0) : ∀ {h : Nat}, i < h → kyE lk ep h = rkE (lk i) ep
  | 0, hi => absurd hi (Nat.not_lt_zero i)
  | h + 1, hi => by
    unfold kyE
    by_cases e : i = h
    · subst e
      rw [if_pos h0]
    · have q := ky_stop h0 h1 (h := h) (by omega)
      rw [if_neg (by rw [q]; exact h1), q]
theorem ky_on {lk : Nat → Nat} {ep : Int} {i : Nat} (h0 : kyE lk ep i = 0) (h1 : rkE (lk i) ep = 0) : kyE lk ep (i + 1) = 0 := by
  unfold kyE
  rw [if_pos h0, h1]
theorem su_on {h hn n : Nat} {lk : Nat → Nat} {ep : Int} (h0 : kyE lk ep h = 0) : suE h hn lk ep n = rwE h hn (fun _ => 32) n := if_pos h0
theorem suN_on {h hn n : Nat} {lk : Nat → Nat} {ep : Int} (h0 : kyE lk ep h = 0) : suN h hn lk ep n = rwN h hn (fun _ => 32) n := by
  unfold suN rwN
  rw [su_on h0]
theorem suN_no {h hn n : Nat} {lk : Nat → Nat} {ep : Int} (h0 : suE h hn lk ep n ≠ 0) : suN h hn lk ep n = 0 := if_neg h0
theorem rkN_on {l : Nat} {ep : Int} (h : rkE l ep = 0) : rkN l ep = 32 := by
  unfold rkN
  rw [h]
  rfl
/-- A list whose row is of bytes. -/
def TyB (W : World) (v : Value) : Prop := ∀ (ad : Addr) (n c : Nat), v = .slice (some ad) n c → ∃ cur, W.heap[ad.block]? = some (.cells cur 5)
/-- Keys that were made: each of 32 bytes. -/
structure Kys (W : World) (k : Nat) (y : Nat → Value) (key : Nat → Nat → Nat) : Prop where
  sl : ∀ i, i < k → SliceN W (y i) 32 (key i)
  ty : ∀ i, i < k → TyB W (y i)
theorem TyB.on {W X : World} {v : Value} (h : TyB W v) (b : Below W.heap.size W X) : TyB X v := fun ad n c e => by
  obtain ⟨cur, q⟩ := h ad n c e
  exact ⟨cur, by rw [b.block _ (Array.getElem?_eq_some_iff.1 q).1]; exact q⟩
theorem Kys.none (W : World) (y : Nat → Value) (key : Nat → Nat → Nat) : Kys W 0 y key := ⟨fun i hi => absurd hi (Nat.not_lt_zero i), fun i hi => absurd hi (Nat.not_lt_zero i)⟩
theorem Kys.on {W X : World} {k : Nat} {y : Nat → Value} {key : Nat → Nat → Nat} (h : Kys W k y key) (b : Below W.heap.size W X) : Kys X k y key := ⟨fun i hi => (h.sl i hi).on b, fun i hi => (h.ty i hi).on b⟩
theorem Kys.add {W : World} {k : Nat} {y : Nat → Value} {key : Nat → Nat → Nat} {r : Value} (h : Kys W k y key) (hs : SliceN W r 32 (key k)) (ht : TyB W r) : Kys W (k + 1) (updX y k r) key := by
  refine ⟨fun i hi => ?_, fun i hi => ?_⟩
  · by_cases e : i = k
    · subst e; rw [updX_at]; exact hs
    · rw [updX_lt _ _ (by omega)]; exact h.sl i (by omega)
  · by_cases e : i = k
    · subst e; rw [updX_at]; exact ht
    · rw [updX_lt _ _ (by omega)]; exact h.ty i (by omega)
theorem Kys.grown {W X : World} {k n C : Nat} {y : Nat → Value} {key : Nat → Nat → Nat} {u : Value} {ys : List Value} (h : Kys W k y key) (hu : W.ownsRow C 25 1 u n ys) (hg : W.grownBy X u.ownBlock) : Kys X k y key := by
  have keep : ∀ (b : Nat) (cur : Array Value), W.heap[b]? = some (.cells cur 5) → X.heap[b]? = W.heap[b]? := fun b cur q => hg.block b (Array.getElem?_eq_some_iff.1 q).1 (fun e => by
    obtain ⟨c2, q2⟩ := own_typeL hu e.symm
    rw [q] at q2
    injection q2 with q3
    injection q3 with _ q5
    exact absurd q5 (by decide))
  refine ⟨fun i hi => ?_, fun i hi ad n c e => ?_⟩
  · obtain ⟨⟨a, cap, e, h1, h2, h3⟩, hb⟩ := h.sl i hi
    refine ⟨⟨a, cap, e, h1, h2, fun h0 => ?_⟩, hb⟩
    obtain ⟨b, off, rfl, hlt, hc⟩ := h3 h0
    obtain ⟨cur, q⟩ := h.ty i hi _ _ _ e
    refine ⟨b, off, rfl, Nat.lt_of_lt_of_le hlt hg.size, fun j hj => ?_⟩
    have k1 := keep b cur q
    rw [q] at k1
    rw [cell_of_row _ _ _ _ _ _ k1, ← cell_of_row _ _ _ _ _ _ q]
    exact hc j hj
  · obtain ⟨cur, q⟩ := h.ty i hi ad n c e
    exact ⟨cur, by rw [keep _ cur q]; exact q⟩
theorem keys_cells {W : World} {B k : Nat} {u : Value} {y : Nat → Value} {key : Nat → Nat → Nat} (hu : W.ownsRow B 25 1 u k (lL y k)) (h : Kys W k y key) : Cells W u k y (fun _ => 32) key := by
  refine ⟨?_, h.sl, fun i hi l cc e => ?_, fun i hi => by omega⟩
  · rcases hu.2 with ⟨rfl, e⟩ | ⟨g, cap, cur, rfl, h1, h2, h3, h4, h5, h6⟩
    · obtain rfl : k = 0 := by
        cases k with
        | zero => rfl
        | succ n => simp at e
      exact ⟨none, 0, rfl, Nat.le_refl _, by omega, fun q => absurd q (Nat.lt_irrefl 0)⟩
    · have hc := hu.cells (g := g) rfl
      refine ⟨_, cap, rfl, h3, by unfold maxLen at h4; omega, fun _ => ⟨g, 0, rfl, (Array.getElem?_eq_some_iff.1 h2).1, fun i hi => ?_⟩⟩
      have := hc i (y i) (lL_get y k i hi)
      rw [Go.WideShapes.add_plain] at this
      exact this
  · obtain ⟨⟨a, cap, e2, h1, h2, h3⟩, _⟩ := h.sl i hi
    rw [e] at e2
    injection e2 with e3
    obtain ⟨b, off, e4, _⟩ := h3 (by omega)
    rw [← e3] at e4
    cases e4
section
variable {o : Oper} {a : Act} {W : World}
theorem execAppLB {s x : Operand} {B n m g : Nat} {v : Value} {xs : List Value} {ls : Array Value}
    (ho : o.op = .call { callee := .builtin .append, args := #[s, x], argTypes := #[24, 24] }) (hs : a.eval s = v) (hx : a.eval x = .slice (some ⟨g, 0, none⟩) m m) (hown : W.ownsRow B 25 1 v n xs) (hg : W.heap[g]? = some (.cells ls 25)) (hl : ls.size = m) (h1 : ∀ u ∈ ls.toList, u.oneCell' = true) (hn : (n + m) * 24 ≤ 140737488355328) (hB : B ≤ W.heap.size) :
    ∃ v' W', (execOp a.eval o).run Tryz.prog W = .ok (.value v') W' ∧ W'.ownsRow B 25 1 v' (n + m) (xs ++ ls.toList) ∧ W.grownBy W' v.ownBlock := by
  obtain ⟨i, i1, i2, i3, i4⟩ := infoL8
  exact execAppO ho Tryz.underlying24 i1 i2 i3 i4 (by simp [Value.cells]) (by decide) hs hown hx (by rw [Array.length_toList, hl, Nat.mul_one]) (fun j u hu => by
    rw [Go.WideShapes.add_plain, cell_of_row _ _ _ _ _ _ hg, Nat.zero_add]
    simpa using hu) h1 (by unfold maxLen; omega) hn hB
end
theorem stepAppLB {ops : Array Oper} {Q : Exit → Act → World → Prop} {K : Act → World → Prop} {j : Nat} {o : Oper} {a : Act} {W : World} {s x : Operand} {B n m g : Nat} {v : Value} {xs : List Value} {ls : Array Value} (hos : ops[j]? = some o) (hgd : Region.wanted o (yielded ops a.tmps) = true)
    (ho : o.op = .call { callee := .builtin .append, args := #[s, x], argTypes := #[24, 24] }) (hs : a.eval s = v) (hx : a.eval x = .slice (some ⟨g, 0, none⟩) m m) (hown : W.ownsRow B 25 1 v n xs) (hg : W.heap[g]? = some (.cells ls 25)) (hl : ls.size = m) (h1 : ∀ u ∈ ls.toList, u.oneCell' = true) (hn : (n + m) * 24 ≤ 140737488355328) (hB : B ≤ W.heap.size)
    (hK : ∀ v' W', W'.ownsRow B 25 1 v' (n + m) (xs ++ ls.toList) → W.grownBy W' v.ownBlock → K (a.put o.dst v') W') : wpOp Tryz.prog ops Q j K a W := by
  obtain ⟨v', W', run, q1, q2⟩ := execAppLB ho hs hx hown hg hl h1 hn hB
  exact stepV hos hgd run (hK v' W' q1 q2)
theorem one25 {v : Value} {n : Nat} (h : ∃ a c, v = .slice a n c) : ∀ u ∈ (#[v] : Array Value).toList, u.oneCell' = true := by
  obtain ⟨a, c, rfl⟩ := h
  intro u hu
  simp at hu
  subst hu
  rfl
end Go.Proofs.YthmlfglllhmimaaGreatDoor.Cas
