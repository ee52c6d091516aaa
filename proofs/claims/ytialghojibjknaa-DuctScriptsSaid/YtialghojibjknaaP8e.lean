import Derived.Test.YtialghojibjknaaP8d
import Derived.WalkKit
namespace Go.Proofs.Ytialghojibjknaa.Duc
open Go.RowKit Gf8 Aes By8 Cel Cf Win Drw Prm
/- Steps in memory; place; what `played` leaves. Written by tools/mkP8e.py. -/

def xL (k d x : Int) : List Value := [.int .i64 k, .int .i64 d, .int .i64 x]
/-- The cells of a step. -/
def xC (k d x : Int) : Array Value := #[.int .i64 k, .int .i64 d, .int .i64 x]
theorem xC_at {W : World} {g : Nat} {k d x : Int} {t : TypeId} (h : W.heap[g]? = some (.cells (xC k d x) t)) : W.cell? ⟨g, 0, none⟩ = some (.int .i64 k) ∧ W.cell? ⟨g, 0 + 1, none⟩ = some (.int .i64 d) ∧ W.cell? ⟨g, 0 + 2, none⟩ = some (.int .i64 x) :=
  ⟨by rw [cell_of_row _ _ _ _ _ _ h]; rfl, by rw [cell_of_row _ _ _ _ _ _ h]; rfl, by rw [cell_of_row _ _ _ _ _ _ h]; rfl⟩
theorem xC_range {W : World} {g : Nat} {k d x : Int} {t : TypeId} (h : W.heap[g]? = some (.cells (xC k d x) t)) : W.rangeAt g 0 (xL k d x) := by
  obtain ⟨h0, h1, h2⟩ := xC_at h
  intro j v hv
  match j, hv with
  | 0, hv => exact h0.trans hv
  | 1, hv => exact h1.trans hv
  | 2, hv => exact h2.trans hv
  | j + 3, hv => cases hv
/-- A script. -/
structure Sp3 (W : World) (v : Value) (n : Nat) (kd wh ix : Nat → Int) : Prop where
  shape : ∃ a c, v = .slice a n c ∧ (0 < n → ∃ b q, a = some ⟨b, q, none⟩ ∧ b < W.heap.size ∧ ∀ j, j < n → W.rangeAt b (q + j * 3) (xL (kd j) (wh j) (ix j)))
  num : ∀ j, j < n → I64 (wh j) ∧ I64 (ix j)
section
variable {W W' : World} {v : Value} {n : Nat} {kd wh ix : Nat → Int}
theorem range18 {b q : Nat} {l : List Value} (h : W.rangeAt b q l) (hb : Below W.heap.size W W') (hl : b < W.heap.size) : W'.rangeAt b q l := fun j x hx => by
  rw [cell_below hb hl]
  exact h j x hx
theorem Sp3.on (h : Sp3 W v n kd wh ix) (hb : Below W.heap.size W W') : Sp3 W' v n kd wh ix := by
  obtain ⟨⟨a, c, e, h3⟩, h1⟩ := h
  refine ⟨⟨a, c, e, fun h0 => ?_⟩, h1⟩
  obtain ⟨b, q, e1, e2, e3⟩ := h3 h0
  exact ⟨b, q, e1, Nat.lt_of_lt_of_le e2 hb.size, fun j hj => range18 (e3 j hj) hb e2⟩
theorem Sp3.shp (h : Sp3 W v n kd wh ix) : ∃ a c, v = .slice a n c := by
  obtain ⟨a, c, e, _⟩ := h.shape
  exact ⟨a, c, e⟩
theorem Sp3.at (h : Sp3 W v n kd wh ix) (h0 : 0 < n) : ∃ b q c, v = .slice (some ⟨b, q, none⟩) n c ∧ b < W.heap.size ∧ ∀ j, j < n → W.rangeAt b (q + j * 3) (xL (kd j) (wh j) (ix j)) := by
  obtain ⟨a, c, e, h3⟩ := h.shape
  obtain ⟨b, q, e1, e2, e3⟩ := h3 h0
  exact ⟨b, q, c, by rw [e, e1], e2, e3⟩
end
section
variable {o : Oper} {a : Act} {w : World}
theorem execFx0 {x : Operand} {b k : Nat} (ho : o.op = .fieldAddr 34 x 0) (hx : a.eval x = .pointer (some ⟨b, k, none⟩)) : (execOp a.eval o).run Try.prog w = .ok (.value (.pointer (some ⟨b, k, none⟩))) w := by
  unfold execOp
  simp only [ho, hx]
  simp [go_sem]
theorem execFx1 {x : Operand} {b k : Nat} (ho : o.op = .fieldAddr 34 x 1) (hx : a.eval x = .pointer (some ⟨b, k, none⟩)) : (execOp a.eval o).run Try.prog w = .ok (.value (.pointer (some ⟨b, k + 1, none⟩))) w := by
  unfold execOp
  simp only [ho, hx]
  simp [go_sem]
theorem execFx2 {x : Operand} {b k : Nat} (ho : o.op = .fieldAddr 34 x 2) (hx : a.eval x = .pointer (some ⟨b, k, none⟩)) : (execOp a.eval o).run Try.prog w = .ok (.value (.pointer (some ⟨b, k + 2, none⟩))) w := by
  unfold execOp
  simp only [ho, hx]
  simp [go_sem]
theorem execBxX {x : Operand} {k d z : Int} (ho : o.op = .box 34 x) (hx : a.eval x = .agg (xC k d z)) : (execOp a.eval o).run Try.prog w = .ok (.value (.pointer (some ⟨w.heap.size, 0, none⟩))) (w.alloc (.cells (xC k d z) 34)) := by
  unfold execOp
  simp only [ho, hx]
  simp [go_sem]
theorem execAlX8 (ho : o.op = .alloc 34) : (execOp a.eval o).run Try.prog w = .ok (.value (.pointer (some ⟨w.heap.size, 0, none⟩))) (w.alloc (.cells (xC 0 0 0) 34)) := by
  unfold execOp
  simp only [ho]
  simp [go_sem, xC]
theorem execStX8 {x y : Operand} {g : Nat} {k d z k0 d0 z0 : Int} (ho : o.op = .store 34 x y) (hx : a.eval x = .pointer (some ⟨g, 0, none⟩)) (hy : a.eval y = .agg (xC k d z)) (hg : w.heap[g]? = some (.cells (xC k0 d0 z0) 34)) : (execOp a.eval o).run Try.prog w = .ok .skip (w.setRow g (xC k d z)) := by
  have h := execStMid (P := Try.prog) ho hx hy hg (Nat.le_refl _) (show (Try.prog.info? 34).map (·.size) = some (xC k d z).size from by show _ = some 3; kernel_rfl) (by simp [xC, Value.oneCell'])
  exact h
theorem execLdXr {x : Operand} {b q : Nat} {k d z : Int} (ho : o.op = .load 34 x) (hx : a.eval x = .pointer (some ⟨b, q, none⟩)) (hc : w.rangeAt b q (xL k d z)) : (execOp a.eval o).run Try.prog w = .ok (.value (.agg (xC k d z))) w :=
  execLoadMid (P := Try.prog) ho hx hc Try.underlying34 rfl (by show _ = some 3; kernel_rfl)
theorem execIdxX8 {x i : Operand} {b off n cap k : Nat} (ho : o.op = .indexAddr 22 x i) (hx : a.eval x = .slice (some ⟨b, off, none⟩) n cap) (hi : a.eval i = .int .i64 ((k : Nat) : Int)) (hk : k < n) : (execOp a.eval o).run Try.prog w = .ok (.value (.pointer (some ⟨b, off + k * 3, none⟩))) w := by
  unfold execOp
  simp only [ho, hx, hi]
  simp [go_sem, hk]
theorem execLenX8 {x : Operand} {v : Value} {len : Nat} (ho : o.op = .call { callee := .builtin .len, args := #[x], argTypes := #[22] }) (hx : a.eval x = v) (hv : ∃ ao c, v = .slice ao len c) : (execOp a.eval o).run Try.prog w = .ok (.value (.int .i64 ((len : Nat) : Int))) w := by
  obtain ⟨ao, c, rfl⟩ := hv
  unfold execOp
  simp only [ho, resolve, invoke, builtin, List.map_toArray, List.map_cons, List.map_nil, hx]
  simp [go_sem]
end
def plc (i : Int) (n : Nat) : Nat := (if i < 0 then -(i + 1) else i).toNat % n
theorem place18 (i : Int) (n : Nat) (V : World) (h1 : -9223372036854775808 ≤ i) (h2 : i < 9223372036854775808) (hn : 0 < n) (hm : n < 9223372036854775808) :
    Calls Try.prog 7 #[.int .i64 i, .int .i64 (n : Int)] V fun e w' => e = .returned (.int .i64 (plc i n : Nat)) ∧ w' = V := by
  have n1 : (n : Int) < 9223372036854775808 := by omega
  have n0 : (n : Int) ≠ 0 := by omega
  have HN : Hid (0 < n) := hn
  clear hn hm
  by_cases h0 : i < 0
  · obtain ⟨k, hk⟩ : ∃ k : Nat, -(i + 1) = k := ⟨(-(i + 1)).toNat, by omega⟩
    have k1 : (k : Int) < 9223372036854775808 := by omega
    have ep : plc i n = k % n := by unfold plc; rw [if_pos h0, hk]; simp
    have HK : Hid (_) := hk
    have EP : Hid (_) := ep
    clear ep
    go_enter Try.func7, Try.ntmps7
    go_wp2
    go_ret
    rw [EP.out]
    exact ⟨rfl, rfl⟩
  · obtain ⟨k, rfl⟩ : ∃ k : Nat, i = k := ⟨i.toNat, by omega⟩
    have ep : plc (k : Int) n = k % n := by unfold plc; rw [if_neg h0]; simp
    have EP : Hid (_) := ep
    clear ep
    go_enter Try.func7, Try.ntmps7
    go_wp2
    go_ret
    rw [EP.out]
    exact ⟨rfl, rfl⟩
/-- A list of ints as things. -/
def zI (z : Nat → Int) (j : Nat) : Value := .int .i64 (z j)
theorem zI_up (z : Nat → Int) (n : Nat) (x : Int) (j : Nat) : up (zI z) n (.int .i64 x) j = zI (up z n x) j := by
  unfold zI
  by_cases e : j = n
  · rw [e, up_at, up_at]
  · rw [up_ne _ _ e, up_ne _ _ e]
theorem up_num {z : Nat → Int} {n : Nat} {x : Int} (hz : ∀ j, j < n → I64 (z j)) (hx : I64 x) : ∀ j, j < n + 1 → I64 (up z n x j) := fun j hj => by
  by_cases e : j = n
  · rw [e, up_at]; exact hx
  · rw [up_ne _ _ e]; exact hz j (by omega)
/-- What one call, beside the document's, leaves. -/
def Plyd (I : ImplI) (U V : World) (F : Nat → Prop) (v r : Value) (k : Nat) (e : Ending) (w' : World) : Prop :=
  ∃ F' r' z' n' c', e = .returned (.tuple #[.agg (dC r' ((k : Nat) : Int) c'), .bool true]) ∧ (I.R w' F' v (zI z') n' k c' ∧ w'.ownsRow U.heap.size 3 1 r' n' (intsL n' z')) ∧ (∀ j, j < n' → I64 (z' j)) ∧ (∀ g, r'.ownBlock = some g → ¬ F' g) ∧ (∀ g, r'.ownBlock = some g → r.ownBlock = some g ∨ V.heap.size ≤ g) ∧ (∀ q, F' q → F q ∨ V.heap.size ≤ q) ∧ Saved F V w'
theorem sv_on {F : Nat → Prop} {V X Y : World} (h : Saved F V X) (b : Below X.heap.size X Y) : Saved F V Y := h.below b h.size
theorem sv_then {F : Nat → Prop} {V X Y : World} (h : Saved F V X) (b : Saved F X Y) : Saved F V Y :=
  ⟨b.os.trans h.os, b.tape.trans h.tape, b.output.trans h.output, Nat.le_trans h.size b.size, fun k hk hG => by rw [b.block k (Nat.lt_of_lt_of_le hk h.size) hG, h.block k hk hG]⟩
theorem bk_saved {F : Nat → Prop} {X Y : World} {g : Nat} {c : Obj} (h : X.heap[g]? = some c) (hs : Saved F X Y) (hn : ¬ F g) : Y.heap[g]? = some c := (hs.block g (Array.getElem?_eq_some_iff.1 h).1 hn).trans h
theorem sv_row {F : Nat → Prop} {V X : World} {g : Nat} (h : Saved F V X) (hg : V.heap.size ≤ g) (c : Array Value) : Saved F V (X.setRow g c) := by
  refine ⟨h.os, h.tape, h.output, by simpa using h.size, fun k hk hk2 => ?_⟩
  rw [setRow_other _ _ _ _ (fun e => by omega), h.block k hk hk2]
section
variable {I : ImplI} {U V X Y : World} {F F' : Nat → Prop} {v : Value} {x : Nat → Value} {n k : Nat} {c : Bool}
theorem ge_off (hR : I.R V F v x n k c) {g : Nat} (hg : V.heap.size ≤ g) : ¬ F g := fun h => Nat.not_lt.2 hg (I.lt hR g h)
theorem dr_row (hR : I.R X F v x n k c) {g : Nat} (hn : ¬ F g) (cs : Array Value) : I.R (X.setRow g cs) F v x n k c :=
  I.frame hR (fun b hb => setRow_other _ _ _ _ (fun e => hn (e ▸ hb))) (by simp)
theorem fp_then (hs : Saved F V X) (hf : ∀ q, F' q → F q ∨ X.heap.size ≤ q) : ∀ q, F' q → F q ∨ V.heap.size ≤ q := fun q h => (hf q h).imp id (fun h => Nat.le_trans hs.size h)
theorem sv_below (hb : Below U.heap.size U X) (hs : Saved F X Y) (hF : ∀ q, F q → U.heap.size ≤ q) : Below U.heap.size U Y := hb.trans (savedG18 hs hF hb.size)
end
end Go.Proofs.Ytialghojibjknaa.Duc
