import Derived.Test.YtaiiomoajjhliaaDoorV8b
import Derived.Test.YtaiiomoajjhliaaDoorX6l
import Derived.Test.YtaiiomoajjhliaaDoorP3
import Derived.Test.YtaiiomoajjhliaaDoorX5l
import Derived.Test.YtaiiomoajjhliaaDoorB7f
import Derived.Test.YtaiiomoajjhliaaDoorO0
import Derived.Test.YtaiiomoajjhliaaDoorC6
import Derived.Test.YtaiiomoajjhliaaDoorX5k
namespace Go.Proofs.YtaiiomoajjhliaaDoor.Rpl
open Go.RowKit Gf8 Aes By8 Cel Cf Tap Drw Dro Oni Rou
/- Stage 27 (reply): the keys of the way back; nonces and blocks of 16 bytes read by their values. Written by tools/mkW8a.py. -/

/-- The bytes of 'churn back'. -/
def bkF : Nat → Nat := fun j => [99, 104, 117, 114, 110, 32, 98, 97, 99, 107].getD j 0
/-- A hop's key of the way back. -/
def bk (key nonce : Nat → Nat) : Nat → Nat := fun j => (ebK (exK (ci key) 32 (ci nonce) 16) 32 (ci bkF) 10 j).toNat
theorem bk_lt (key nonce : Nat → Nat) (j : Nat) : bk key nonce j < 256 := by
  have := eb_bd (inS (exK (ci key) 32 (ci nonce) 16) 32) (outS (exK (ci key) 32 (ci nonce) 16) 32) (ci bkF) 10 j
  unfold bk ebK
  omega
theorem bk_ci (key nonce : Nat → Nat) : ci (bk key nonce) = ebK (exK (ci key) 32 (ci nonce) 16) 32 (ci bkF) 10 := by
  funext j
  have := eb_bd (inS (exK (ci key) 32 (ci nonce) 16) 32) (outS (exK (ci key) 32 (ci nonce) 16) 32) (ci bkF) 10 j
  exact Int.toNat_of_nonneg this.1
/-- All of a chain's. -/
def bks (key nonce : Nat → Nat → Nat) (i : Nat) : Nat → Nat := bk (key i) (nonce i)
def keE (lk : Nat) : Nat := if lk = 32 then 0 else 2
def keN (lk : Nat) : Nat := if lk = 32 then 32 else 0
/-- Is it no chain? -/
def wgE (h hn : Nat) (lk : Nat → Nat) : Nat := if h < 1 ∨ 8 < h ∨ hn ≠ h then 80 else if ksOk h lk then 0 else 2
theorem rw_wg (h hn : Nat) (lk : Nat → Nat) (n : Nat) : rwE h hn lk n = if wgE h hn lk ≠ 0 then wgE h hn lk else if 48 < n then 1 else 0 := by
  unfold rwE wgE
  by_cases e : h < 1 ∨ 8 < h ∨ hn ≠ h
  · rw [if_pos e, if_pos e]; rfl
  · rw [if_neg e, if_neg e]
    cases ksOk h lk <;> rfl
theorem wg_ok {h hn : Nat} {lk : Nat → Nat} (e : wgE h hn lk = 0) : 1 ≤ h ∧ h ≤ 8 ∧ hn = h ∧ ∀ i, i < h → lk i = 32 := by
  unfold wgE at e
  split at e
  · cases e
  · split at e
    · rename_i q1 q2; exact ⟨by omega, by omega, by omega, (ksOk_iff h lk).1 q2⟩
    · cases e
/-- What Open answers. -/
def opE (h hn : Nat) (lk : Nat → Nat) (key nonce : Nat → Nat → Nat) (len : Nat) (c : Nat → Nat) : Nat := if wgE h hn lk ≠ 0 then wgE h hn lk else if Rou.wkG h (bks key nonce) (fun _ => 32) len c h ≠ 0 then Rou.wkG h (bks key nonce) (fun _ => 32) len c h else openE (wkC h (bks key nonce) c h) (wkL len h)
def opN (h hn : Nat) (lk : Nat → Nat) (key nonce : Nat → Nat → Nat) (len : Nat) (c : Nat → Nat) : Nat := if wgE h hn lk ≠ 0 then 0 else if Rou.wkG h (bks key nonce) (fun _ => 32) len c h ≠ 0 then 0 else openN (wkC h (bks key nonce) c h) (wkL len h)
def opF (h : Nat) (key nonce : Nat → Nat → Nat) (c : Nat → Nat) (j : Nat) : Nat := wkC h (bks key nonce) c h (2 + j)
section
variable {W : World} {v : Value} {n k : Nat} {q : Nat → Nat → Nat} {o : Oper} {a : Act} {x y : Operand} {g : Nat} {nonce : Nat → Nat}
theorem nshp (h : Nons W v n q) : ∃ a cap, v = .slice a n cap := by
  obtain ⟨a, cap, e, _⟩ := h.shape
  exact ⟨a, cap, e⟩
theorem execLenNs (h : Nons W v n q) (ho : o.op = .call { callee := .builtin .len, args := #[x], argTypes := #[23] }) (hx : a.eval x = v) : (execOp a.eval o).run Tryd.prog W = .ok (.value (.int .i64 (n : Int))) W := by
  obtain ⟨ao, c, rfl⟩ := nshp h
  unfold execOp
  simp only [ho]
  simp [go_sem] at hx ⊢
  simp [hx, go_sem]
theorem execIdxNs (h : Nons W v n q) (ho : o.op = .indexAddr 23 x y) (hx : a.eval x = v) (hy : a.eval y = .int .i64 (k : Int)) (hk : k < n) : (execOp a.eval o).run Tryd.prog W = .ok (.value (.pointer (some ⟨adB v, adO v + k * 16, none⟩))) W := by
  obtain ⟨ad, cap, rfl, _, _, e⟩ := h.shape
  obtain ⟨b, off, rfl, _⟩ := e (by omega)
  exact execIdxA ho hx hy hk
theorem execLdNs (h : Nons W v n q) (ho : o.op = .load 33 x) (hx : a.eval x = .pointer (some ⟨adB v, adO v + k * 16, none⟩)) (hk : k < n) : (execOp a.eval o).run Tryd.prog W = .ok (.value (.agg (bA 16 (q k)))) W := by
  obtain ⟨ad, cap, rfl, _, _, e⟩ := h.shape
  obtain ⟨b, off, rfl, _, hc⟩ := e (by omega)
  exact execLdList ho hx (hc k hk) Tryd.underlying33 rfl (by kernel_rfl)
theorem execBx16 (ho : o.op = .box 33 x) (hx : a.eval x = .agg (bA 16 nonce)) : (execOp a.eval o).run Tryd.prog W = .ok (.value (.pointer (some ⟨W.heap.size, 0, none⟩))) (W.alloc (.cells (bA 16 nonce) 33)) := by
  unfold execOp
  simp only [ho, hx]
  simp [go_sem]
theorem execSl16 (ho : o.op = .slice 33 x none none none) (hx : a.eval x = .pointer (some ⟨g, 0, none⟩)) : (execOp a.eval o).run Tryd.prog W = .ok (.value (.slice (some ⟨g, 0, none⟩) 16 16)) W := by
  unfold execOp
  simp only [ho, hx]
  simp [go_sem, Instr.sliceAt, Instr.slice, run_underlying Tryd.underlying33]
theorem slice16 (h : W.heap[g]? = some (.cells (bA 16 nonce) 33)) (hn : By nonce) : SliceN W (.slice (some ⟨g, 0, none⟩) 16 16) 16 nonce :=
  Cf.lit_slice h (fun j hj => by rw [← Array.getElem?_toList]; exact bytesL_at 16 _ hj) hn (by omega)
theorem execLdH16 (h : W.heap[g]? = some (.cells (bA 16 nonce) 33)) (ho : o.op = .load 33 x) (hx : a.eval x = .pointer (some ⟨g, 0, none⟩)) : (execOp a.eval o).run Tryd.prog W = .ok (.value (.agg (bA 16 nonce))) W := execLdAll ho hx h Tryd.underlying33 rfl (by rw [bA_size]; kernel_rfl)
theorem execBsBk (ho : o.op = .buildSlice 24 10 #[(0, .const (.int .u8 99)), (1, .const (.int .u8 104)), (2, .const (.int .u8 117)), (3, .const (.int .u8 114)), (4, .const (.int .u8 110)), (5, .const (.int .u8 32)), (6, .const (.int .u8 98)), (7, .const (.int .u8 97)), (8, .const (.int .u8 99)), (9, .const (.int .u8 107))]) : (execOp a.eval o).run Tryd.prog W = .ok (.value (.slice (some ⟨W.heap.size, 0, none⟩) 10 10)) (W.alloc (.cells (bA 10 bkF) 5)) := by
  unfold execOp
  simp only [ho]
  simp [go_sem]
  rfl
theorem bk_b : ∀ j, j < 10 → bkF j < 256 := by decide
theorem bk_slice {fr : Nat × Nat} (h : W.heap[g]? = some (.cells (bA 10 bkF) 5 fr)) : SliceN W (.slice (some ⟨g, 0, none⟩) 10 10) 10 bkF :=
  Cf.lit_slice h (fun j hj => by rw [← Array.getElem?_toList]; exact bytesL_at 10 _ hj) (fun j hj => bk_b j hj) (by omega)
theorem conv27 {b : Nat} {C : Array Value} {fr : Nat × Nat} (n c : Nat) (h : W.heap[b]? = some (.cells C 5 fr)) : (convert 24 24 (.slice (some ⟨b, 0, none⟩) n c)).run Tryd.prog W = .ok (.slice (some ⟨b, 0, none⟩) n c) (W.freeze ⟨b, C.size, none⟩ 1) := by
  have hsh : W.shape? b = some (5, C.size) := by unfold World.shape?; rw [h]
  simp [convert, run_underlying Tryd.underlying24, run_underlying Tryd.underlying5, markStringish, hsh]
theorem execCvB7 {b : Nat} {C : Array Value} {n c : Nat} (ho : o.op = .convert 24 24 x) (hx : a.eval x = .slice (some ⟨b, 0, none⟩) n c) (h : W.heap[b]? = some (.cells C 5)) : (execOp a.eval o).run Tryd.prog W = .ok (.value (.slice (some ⟨b, 0, none⟩) n c)) (W.freeze ⟨b, C.size, none⟩ 1) := by
  unfold execOp
  simp only [ho, hx, Sem.run_bind, conv27 n c h, Result.andThen_ok, Sem.run_pure]
theorem frz_heap {b k : Nat} : (∀ i, i ≠ b → (W.freeze ⟨b, k, none⟩ 1).heap[i]? = W.heap[i]?) ∧ (W.freeze ⟨b, k, none⟩ 1).heap.size = W.heap.size := by
  unfold World.freeze
  rw [if_neg (by decide)]
  refine ⟨fun i hi => ?_, by simp⟩
  simp only [Array.getElem?_modify]
  rw [if_neg (fun e => hi e.symm)]
theorem frz_cell {b k : Nat} (p : Addr) : (W.freeze ⟨b, k, none⟩ 1).cell? p = W.cell? p := by
  unfold World.freeze World.cell?
  rw [if_neg (by decide)]
  simp only [Array.getElem?_modify]
  by_cases e : b = p.block
  · subst e
    rw [if_pos rfl]
    cases q : W.heap[p.block]? with
    | none => rfl
    | some ob => cases ob <;> rfl
  · rw [if_neg e]
theorem frz_sl {b k n : Nat} {v : Value} {p : Nat → Nat} (h : SliceN W v n p) : SliceN (W.freeze ⟨b, k, none⟩ 1) v n p := by
  obtain ⟨⟨a, cap, e, h1, h2, h3⟩, hp⟩ := h
  refine ⟨⟨a, cap, e, h1, h2, fun h0 => ?_⟩, hp⟩
  obtain ⟨b', off, e2, hb, hc⟩ := h3 h0
  exact ⟨b', off, e2, by rw [frz_heap.2]; exact hb, fun j hj => by rw [frz_cell]; exact hc j hj⟩
theorem frz_bel {V : World} {B b k : Nat} (h : Below B V W) (hb : B ≤ b) : Below B V (W.freeze ⟨b, k, none⟩ 1) := by
  refine h.trans ⟨?_, ?_, ?_, by rw [frz_heap.2]; exact Nat.le_refl _, fun i hi => frz_heap.1 i (by omega)⟩ <;> (unfold World.freeze; rw [if_neg (by decide)])
end
end Go.Proofs.YtaiiomoajjhliaaDoor.Rpl

namespace Go.Proofs.YtaiiomoajjhliaaDoor.Rpl
open Go.RowKit Gf8 Aes By8 Cel Cf Tap Drw Dro Oni Rou
/- Stage 27: the reference's Open. Written by tools/mkW8d.py. -/

section
variable {o : Oper} {a : Act} {w : World}
theorem execAlPe (ho : o.op = .alloc 35) : (execOp a.eval o).run Tryd.prog w = .ok (.value (.pointer (some ⟨w.heap.size, 0, none⟩))) (w.alloc (.cells (pC (.slice none 0 0) fun _ => 0) 35)) := by
  have h := zeroP
  unfold execOp
  simp only [ho]
  simp [go_sem, h]
theorem execStPe {x y : Operand} {g : Nat} {u u2 : Value} {r r2 : Nat → Nat} (ho : o.op = .store 35 x y) (hx : a.eval x = .pointer (some ⟨g, 0, none⟩)) (hy : a.eval y = .agg (pC u2 r2)) (hg : w.heap[g]? = some (.cells (pC u r) 35)) (hu : u2.oneCell' = true) : (execOp a.eval o).run Tryd.prog w = .ok .skip (w.setRow g (pC u2 r2)) := by
  have h := Aes.execStMid (P := Tryd.prog) ho hx hy hg (by rw [pC_size, pC_size]; omega) (sizeP u2 r2) (pC_one r2 hu)
  rw [h, List.take_zero, List.nil_append, List.drop_eq_nil_of_le (by rw [Array.length_toList, pC_size, pC_size]; omega), List.append_nil]
end
theorem wkl_le {len : Nat} (h : len ≤ 140737488351232) : ∀ i, wkL len i ≤ 140737488351232
  | 0 => h
  | _ + 1 => by show 320 ≤ _; omega
theorem own_one2 {W : World} {B n : Nat} {v : Value} {xs : List Value} (h : W.ownsRow B 5 1 v n xs) : v.oneCell' = true := by
  obtain ⟨a, c, e⟩ := ownQ_shape h
  rw [e]
  rfl
theorem pc_at0 {W : World} {g : Nat} {u : Value} {r : Nat → Nat} (h : W.heap[g]? = some (.cells (pC u r) 35)) : W.cell? ⟨g, 0, none⟩ = some u := by
  rw [cell_of_row _ _ _ _ _ _ h]
  rfl
end Go.Proofs.YtaiiomoajjhliaaDoor.Rpl

namespace Go.Proofs.YtaiiomoajjhliaaDoor.Rpl
open Go.RowKit Gf8 Aes By8 Cel Cf Tap Drw Dro Oni Rou
/- Stage 27: what a package of replies keeps; what was answered is heard; alive. Written by tools/mkW8e.py. -/

/-- What the program's package keeps; G: what it asks of the world. -/
structure Impl (G : World → Prop) : Prop where
  key : ∀ (key nonce : Nat → Nat) (lk : Nat) (v : Value) (V : World), G V → By nonce → SliceN V v lk key → lk ≤ 140737488351232 →
    Calls Tryd.prog 12 #[v, .agg (bA 16 nonce)] V fun e w' => (∃ r, e = .returned (.tuple #[r, .int .i64 ((keE lk : Nat) : Int)]) ∧ w'.ownsRow V.heap.size 5 1 r (keN lk) (bytesL (keN lk) (bk key nonce))) ∧ Below V.heap.size V w'
  wrap : ∀ (key nonce inner : Nat → Nat) (lk n : Nat) (left : Int) (v vi : Value) (V : World), G V → By nonce → SliceN V v lk key → lk ≤ 140737488351232 → SliceN V vi n inner → n ≤ 140737488351232 →
    Calls Tryd.prog 16 #[v, .agg (bA 16 nonce), .int .i64 left, vi] V fun e w' => (∃ r, e = .returned (.tuple #[r, .int .i64 ((wrE lk left n : Nat) : Int)]) ∧ w'.ownsRow V.heap.size 5 1 r (wrN lk left n) (bytesL (wrN lk left n) (wrF (bk key nonce) nonce left.toNat n inner))) ∧ Below V.heap.size V w'
  chain : ∀ (h hn : Nat) (kv nv : Value) (xv : Nat → Value) (lk : Nat → Nat) (key q : Nat → Nat → Nat) (n : Nat) (p : Nat → Nat) (pv : Value) (V : World), G V → Ls V kv h xv lk key → h ≤ 140737488351232 → Nons V nv hn q → hn ≤ 140737488351232 → SliceN V pv n p → (∀ l c, pv = .slice none l c → c = 0) → n ≤ 140737488351232 →
    Calls Tryd.prog 6 #[kv, nv, pv] V fun e w' => (∃ r, e = .returned (.tuple #[r, .int .i64 ((rwE h hn lk n : Nat) : Int)]) ∧ w'.ownsRow V.heap.size 5 1 r (rwN h hn lk n) (bytesL (rwN h hn lk n) (rwF h (bks key q) q n p))) ∧ Below V.heap.size V w'
  open_ : ∀ (h hn : Nat) (kv nv : Value) (xv : Nat → Value) (lk : Nat → Nat) (key q : Nat → Nat → Nat) (len : Nat) (c : Nat → Nat) (cv : Value) (V : World), G V → Ls V kv h xv lk key → h ≤ 140737488351232 → Nons V nv hn q → hn ≤ 140737488351232 → SliceN V cv len c → (∀ l c, cv = .slice none l c → c = 0) → len ≤ 140737488351232 →
    Calls Tryd.prog 8 #[kv, nv, cv] V fun e w' => (∃ r, e = .returned (.tuple #[r, .int .i64 ((opE h hn lk key q len c : Nat) : Int)]) ∧ w'.ownsRow V.heap.size 5 1 r (opN h hn lk key q len c) (bytesL (opN h hn lk key q len c) (opF h key q c))) ∧ Below V.heap.size V w'
theorem open_plain8 {len : Nat} (p : Nat → Nat) (h : len ≤ 48) : openY (cellF 2 (headP len) len p) 320 = true ∧ openE (cellF 2 (headP len) len p) 320 = 0 ∧ openN (cellF 2 (headP len) len p) 320 = len := by
  have a0 : cellF 2 (headP len) len p 0 = 1 := rfl
  have a1 : cellF 2 (headP len) len p 1 = len := rfl
  have hz : zeroFrom (cellF 2 (headP len) len p) (2 + len) = true := (zeroFrom_iff _ _).2 fun j h1 h2 => by
    unfold cellF
    rw [if_neg (by omega), if_neg (by omega)]
  have hy : openY (cellF 2 (headP len) len p) 320 = true := by
    unfold openY
    rw [a0, a1, hz]
    simp [h]
  refine ⟨hy, ?_, by unfold openN; rw [if_pos hy, a1]⟩
  unfold openE
  rw [if_neg (by simp), a0, a1, if_neg (by omega), if_neg (by omega), if_neg (by omega), if_pos hz]
/-- What was answered is heard. -/
theorem open_chain {h hn n : Nat} {lk : Nat → Nat} {key q : Nat → Nat → Nat} {p : Nat → Nat} (e : rwE h hn lk n = 0) : opE h hn lk key q 320 (rwF h (bks key q) q n p) = 0 ∧ opN h hn lk key q 320 (rwF h (bks key q) q n p) = n ∧ ∀ j, j < n → opF h key q (rwF h (bks key q) q n p) j = p j := by
  obtain ⟨h1, h2, h3, h4, h5⟩ := rwE_ok e
  have ew : wgE h hn lk = 0 := by
    unfold wgE
    rw [if_neg (by omega), if_pos ((ksOk_iff h lk).2 h4)]
  obtain ⟨e1, e2⟩ := ce_walk (h := h) (key := bks key q) (nonce := q) (n := n) (p := p) (lk := fun _ => 32) h5 h2 (fun _ _ => rfl) h (Nat.le_refl _)
  rw [← rw_ce h1, Nat.sub_self] at e1
  rw [← rw_ce h1] at e2
  have e3 : ceF h (bks key q) q n p 0 = cellF 2 (headP n) n p := if_pos rfl
  have e4 : wkL 320 h = 320 := by cases h <;> rfl
  obtain ⟨o1, o2, o3⟩ := open_plain8 p h5
  refine ⟨?_, ?_, fun j hj => ?_⟩
  · unfold opE
    rw [if_neg (by omega), if_neg (by omega), e1, e3, e4, o2]
  · unfold opN
    rw [if_neg (by omega), if_neg (by omega), e1, e3, e4]
    exact o3
  · unfold opF
    rw [e1, e3]
    unfold cellF
    rw [if_neg (by omega), if_pos (by omega), Nat.add_sub_cancel_left]
theorem rw_lt {h n : Nat} {key q : Nat → Nat → Nat} {p : Nat → Nat} (hq : ∀ i, i < h → By (q i)) (h8 : h ≤ 8) (hn : n ≤ 48) (hp : ∀ j, j < n → p j < 256) (j : Nat) : rwF h key q n p j < 256 := cellF_lt (fun j hj => by omega) (fun j hj => loF_lt hq hn hp h (Nat.le_refl _) h8 j hj) j
theorem zero32 (X : World) : SliceN (X.alloc (.cells (bA 32 fun _ => 0) 5)) (.slice (some ⟨X.heap.size, 0, none⟩) 32 32) 32 (fun _ => 0) := Cf.lit_slice (heapNew X _) (fun j hj => by rw [← Array.getElem?_toList]; exact bytesL_at 32 (fun _ => 0) hj) (fun _ _ => by decide) (by omega)
theorem one_ls {W : World} {g l : Nat} {v : Value} {p : Nat → Nat} (h : W.heap[g]? = some (.cells #[v] 24)) (hv : SliceN W v l p) (hz : ∀ l c, v = .slice none l c → c = 0 := by intro _ _ h; cases h) (hl : l ≤ 140737488351232 := by omega) : Ls W (.slice (some ⟨g, 0, none⟩) 1 1) 1 (fun _ => v) (fun _ => l) (fun _ => p) := by
  refine ⟨⟨_, 1, rfl, Nat.le_refl _, by omega, fun _ => ⟨g, 0, rfl, (Array.getElem?_eq_some_iff.1 h).1, fun i hi => ?_⟩⟩, fun _ _ => hv, fun _ _ => hz, fun _ _ => hl⟩
  rw [cell_of_row _ _ _ _ _ _ h]
  match i, hi with
  | 0, _ => rfl
section
variable {o : Oper} {a : Act} {w : World}
theorem fill16n (f : Nat → Nat) : Instr.fill (fun i => some (i * 16, 16)) ((Array.range (1 * 16)).map ((bA 16 fun _ => 0)[· % (bA 16 fun _ => 0).size]!)) [(0, .agg (bA 16 f))] = some (bA 16 f) := by
  kernel_rfl
theorem execBsN {x : Operand} {f : Nat → Nat} (ho : o.op = .buildSlice 23 1 #[(0, x)]) (hx : a.eval x = .agg (bA 16 f)) : (execOp a.eval o).run Tryd.prog w = .ok (.value (.slice (some ⟨w.heap.size, 0, none⟩) 1 1)) (w.alloc (.cells (bA 16 f) 33)) := by
  have hz : (zeroValue 33).run Tryd.prog w = .ok (.agg (bA 16 fun _ => 0)) w := zero16 w
  have hs : (sizeOf 33).run Tryd.prog w = .ok 16 w := by simp [go_sem]
  have hf := fill16n f
  have e : (#[((0 : Nat), x)] : Array (Nat × Operand)).map (fun (i, y) => (i, a.eval y)) = #[(0, .agg (bA 16 f))] := by simp [hx]
  have hr : (Instr.buildSlice 23 1 #[(0, .agg (bA 16 f))]).run Tryd.prog w = .ok (.slice (some ⟨w.heap.size, 0, none⟩) 1 1) (w.alloc (.cells (bA 16 f) 33)) := by
    simp only [Instr.buildSlice, Sem.run_bind, run_underlying Tryd.underlying23, Result.andThen_ok, hs]
    rw [if_neg (by decide), if_neg (by decide)]
    simp only [Sem.run_bind, Sem.run_pure, Result.andThen_ok, hz, Value.cells, hf]
    simp [newRow]
  unfold execOp
  simp only [ho, e, Sem.run_bind, hr, Result.andThen_ok, Sem.run_pure]
end
theorem one_ns {W : World} {g : Nat} (h : W.heap[g]? = some (.cells (bA 16 oneF) 33)) : Nons W (.slice (some ⟨g, 0, none⟩) 1 1) 1 (fun _ => oneF) := by
  refine ⟨⟨_, 1, rfl, Nat.le_refl _, by omega, fun _ => ⟨g, 0, rfl, (Array.getElem?_eq_some_iff.1 h).1, fun i hi j hj => ?_⟩⟩, fun _ _ => oneF_by⟩
  obtain rfl : i = 0 := by omega
  rw [cell_of_row _ _ _ _ _ _ h, Nat.zero_mul, Nat.zero_add, ← Array.getElem?_toList]
  exact bytesL_at 16 _ hj
section
variable {W : World} {b k n : Nat} {v : Value}
theorem frz_ls {xv : Nat → Value} {ln : Nat → Nat} {c : Nat → Nat → Nat} (h : Ls W v n xv ln c) : Ls (W.freeze ⟨b, k, none⟩ 1) v n xv ln c := by
  obtain ⟨a, cap, e, h1, h2, h3⟩ := h.shape
  refine ⟨⟨a, cap, e, h1, h2, fun h0 => ?_⟩, fun i hi => frz_sl (h.cell i hi), h.nil, h.lens⟩
  obtain ⟨b', off, e2, hl, hc⟩ := h3 h0
  exact ⟨b', off, e2, by rw [frz_heap.2]; exact hl, fun i hi => by rw [frz_cell]; exact hc i hi⟩
theorem frz_ns {q : Nat → Nat → Nat} (h : Nons W v n q) : Nons (W.freeze ⟨b, k, none⟩ 1) v n q := by
  obtain ⟨a, cap, e, h1, h2, h3⟩ := h.shape
  refine ⟨⟨a, cap, e, h1, h2, fun h0 => ?_⟩, h.by_⟩
  obtain ⟨b', off, e2, hl, hc⟩ := h3 h0
  exact ⟨b', off, e2, by rw [frz_heap.2]; exact hl, fun i hi j hj => by rw [frz_cell]; exact hc i hi j hj⟩
end
theorem hi_b7 (j : Nat) : hi j < 256 := by unfold hi; split <;> omega
theorem hi_str : strN hi 2 = ⟨#[104, 105]⟩ := rfl
theorem rw1 : rwE 1 1 (fun _ => 32) 2 = 0 := rwE_is (Nat.le_refl _) (by omega) rfl (fun _ _ => rfl) (by omega)
section
variable {G : World → Prop} {V : World} {xv : Nat → Value} {kv nv : Value}
theorem chain1 (I : Impl G) (hg : ∀ W, Below V.heap.size V W → G W) (pv : Value) (X : World) (hX : Below V.heap.size V X) (hK : Ls X kv 1 xv (fun _ => 32) (fun _ _ => 0)) (hN : Nons X nv 1 (fun _ => oneF)) (hP : SliceN X pv 2 hi) (hz : ∀ l c, pv = .slice none l c → c = 0 := by intro _ _ h; cases h) :
    Calls Tryd.prog 6 #[kv, nv, pv] X fun e w' => ∃ r, e = .returned (.tuple #[r, .int .i64 ((0 : Nat) : Int)]) ∧ SliceN w' r 320 (rwF 1 (bks (fun _ _ => 0) (fun _ => oneF)) (fun _ => oneF) 2 hi) ∧ (∀ l c, r = .slice none l c → c = 0) ∧ Below X.heap.size X w' := by
  refine (I.chain 1 1 kv nv xv _ _ _ 2 hi pv X (hg X hX) hK (by omega) hN (by omega) hP hz (by omega)).mono ?_
  rintro e w' ⟨⟨r, he, hr⟩, hb⟩
  rw [rw1] at he
  rw [show rwN 1 1 (fun _ => 32) 2 = 320 by unfold rwN; rw [rw1]; rfl] at hr
  exact ⟨r, he, own_slice hr fun j _ => rw_lt (fun _ _ => oneF_by) (by omega) (by omega) hP.bytes j, own_nilI hr, hb⟩
theorem open1 (I : Impl G) (hg : ∀ W, Below V.heap.size V W → G W) (cv : Value) (X : World) (hX : Below V.heap.size V X) (hK : Ls X kv 1 xv (fun _ => 32) (fun _ _ => 0)) (hN : Nons X nv 1 (fun _ => oneF)) (hC : SliceN X cv 320 (rwF 1 (bks (fun _ _ => 0) (fun _ => oneF)) (fun _ => oneF) 2 hi)) (hz : ∀ l c, cv = .slice none l c → c = 0) :
    Calls Tryd.prog 8 #[kv, nv, cv] X fun e w' => ∃ r, e = .returned (.tuple #[r, .int .i64 ((0 : Nat) : Int)]) ∧ SliceN w' r 2 hi ∧ Below X.heap.size X w' := by
  obtain ⟨o1, o2, o3⟩ := open_chain (key := fun _ _ => 0) (q := fun _ => oneF) (p := hi) rw1
  refine (I.open_ 1 1 kv nv xv _ _ _ 320 _ cv X (hg X hX) hK (by omega) hN (by omega) hC hz (by omega)).mono ?_
  rintro e w' ⟨⟨r, he, hr⟩, hb⟩
  rw [o1] at he
  rw [o2] at hr
  exact ⟨r, he, slice_cg (own_slice hr fun j hj => by rw [o3 j hj]; exact hi_b7 j) o3, hb⟩
theorem open0 (I : Impl G) (hg : ∀ W, Below V.heap.size V W → G W) {c : Nat → Nat} (cv : Value) (X : World) (hX : Below V.heap.size V X) (hC : SliceN X cv 320 c) (hz : ∀ l c, cv = .slice none l c → c = 0) :
    Calls Tryd.prog 8 #[.slice none 0 0, .slice none 0 0, cv] X fun e w' => ∃ r, e = .returned (.tuple #[r, .int .i64 ((80 : Nat) : Int)]) ∧ Below X.heap.size X w' := by
  refine (I.open_ 0 0 _ _ (fun _ => undef) (fun _ => 0) (fun _ _ => 0) (fun _ _ => 0) 320 c cv X (hg X hX) ⟨⟨none, 0, rfl, Nat.le_refl _, by omega, fun h => by omega⟩, fun i h => by omega, fun i h => by omega, fun i h => by omega⟩ (by omega) ⟨⟨none, 0, rfl, Nat.le_refl _, by omega, fun h => by omega⟩, fun i h => by omega⟩ (by omega) hC hz (by omega)).mono ?_
  rintro e w' ⟨⟨r, he, _⟩, hb⟩
  exact ⟨r, he, hb⟩
theorem key1 (I : Impl G) (hg : ∀ W, Below V.heap.size V W → G W) {kv : Value} (X : World) (hX : Below V.heap.size V X) (hk : SliceN X kv 32 (fun _ => 0)) :
    Calls Tryd.prog 12 #[kv, .agg (bA 16 oneF)] X fun e w' => ∃ r, e = .returned (.tuple #[r, .int .i64 ((0 : Nat) : Int)]) ∧ SliceN w' r 32 (bk (fun _ => 0) oneF) ∧ Below X.heap.size X w' := by
  refine (I.key (fun _ => 0) oneF 32 kv X (hg X hX) oneF_by hk (by omega)).mono ?_
  rintro e w' ⟨⟨r, he, hr⟩, hb⟩
  exact ⟨r, he, own_slice hr fun j _ => bk_lt _ _ j, hb⟩
end
set_option maxRecDepth 100000 in
set_option maxHeartbeats 4000000 in
/-- The law's alive. -/
theorem alive27 {G : World → Prop} (I : Impl G) (V : World) (hg : ∀ W, Below V.heap.size V W → G W) :
    Calls Tryd.prog 5 #[] V fun e w' => e = .returned (.bool true) ∧ Below V.heap.size V w' := by
  go_enter Tryd.func5, Tryd.ntmps5
  refine wo_ 74 [] ?_
  rintro a A -
  have BW : Below V.heap.size V V := Below.refl _ _
  have BB := BW
  refine wp_seq ?_
  refine wi_ A h0_ (rg_ [] ?_)
  rintro a A -
  refine wp_seq ?_
  obtain ⟨g11, egg11⟩ : ∃ z_ : Nat, V.heap.size = z_ := ⟨_, rfl⟩
  refine wi_ A h0_ (rs_ 0 (fun a ee => ?_))
  refine stepV rfl rfl (execMk (l := 32) (n := 32) rfl rfl rfl (by omega) (by omega)) ⟨.slice (some ⟨g11, 0, none⟩) 32 32, ⟨_, rfl, by subst egg11; rfl⟩, fun X1_1 hX => ?_⟩
  have bQ : Below V.heap.size V X1_1 := by subst hX egg11; exact (belNew V _)
  have F1 : (SliceN X1_1 (.slice (some ⟨g11, 0, none⟩) 32 32) 32 (fun _ => 0)) := by subst hX egg11; exact zero32 V
  replace BB := BB.trans (bQ.mono BB.size)
  clear bQ hX egg11 ee a
  obtain ⟨g12, egg12⟩ : ∃ z_ : Nat, X1_1.heap.size = z_ := ⟨_, rfl⟩
  refine rs_ 1 (fun a ee => ?_)
  refine stepV rfl rfl (execBsL rfl (ee _) ⟨_, _, _, rfl⟩) ⟨.slice (some ⟨g12, 0, none⟩) 1 1, ⟨_, rfl, by subst egg12; rfl⟩, fun X1_2 hX => ?_⟩
  obtain ⟨BB, FK⟩ : Below V.heap.size V X1_2 ∧ (Ls X1_2 (.slice (some ⟨g12, 0, none⟩) 1 1) 1 (fun _ => .slice (some ⟨g11, 0, none⟩) 32 32) (fun _ => 32) (fun _ _ => 0)) := by subst hX egg12; exact ⟨(BB).trans ((belNew X1_1 _).mono (BB).size), one_ls (heapNew X1_1 _) (F1.on (belNew X1_1 _))⟩
  clear F1 hX egg12 ee a
  obtain ⟨g14, egg14⟩ : ∃ z_ : Nat, X1_2.heap.size = z_ := ⟨_, rfl⟩
  refine rv_ 2 (.agg (bA 16 oneF)) (fun a ee => execB16o rfl) (rs_ 3 (fun a ee => ?_))
  refine stepV rfl rfl (execBsN rfl (ee _)) ⟨.slice (some ⟨g14, 0, none⟩) 1 1, ⟨_, rfl, by subst egg14; rfl⟩, fun X1 hX => ?_⟩
  have bQ : Below X1_2.heap.size X1_2 X1 := by subst hX egg14; exact (belNew X1_2 _)
  have FN : (Nons X1 (.slice (some ⟨g14, 0, none⟩) 1 1) 1 (fun _ => oneF)) := by subst hX egg14; exact one_ns (heapNew X1_2 _)
  replace FK := (FK.on bQ)
  replace BB := BB.trans (bQ.mono BB.size)
  clear bQ hX egg14 ee a
  refine rg_ [(1, .slice (some ⟨g12, 0, none⟩) 1 1), (2, .slice (some ⟨g14, 0, none⟩) 1 1)] ?_
  rintro a A ⟨t1, t2, -⟩
  refine wp_seq ?_
  obtain ⟨g18, egg18⟩ : ∃ z_ : Nat, X1.heap.size = z_ := ⟨_, rfl⟩
  refine wi_ A (h2_ t1 t2) (rs_ 2 (fun a ee => ?_))
  refine stepV rfl rfl (execBsU2 rfl) ⟨.slice (some ⟨g18, 0, none⟩) 2 2, ⟨_, rfl, by subst egg18; rfl⟩, fun X2_1 hX => ?_⟩
  have bQ : Below X1.heap.size X1 X2_1 := by subst hX egg18; exact (belNew X1 _)
  have FL : (X2_1.heap[g18]? = some (.cells #[.int .u8 104, .int .u8 105] 5)) := by subst hX egg18; exact heapNew X1 _
  have FG : (V.heap.size ≤ g18) := by subst hX egg18; exact (BB).size
  replace FK := (FK.on bQ)
  replace FN := (FN.on bQ)
  replace BB := BB.trans (bQ.mono BB.size)
  clear bQ hX egg18 ee a
  refine rs_ 3 (fun a ee => ?_)
  refine stepV rfl rfl (execCvB7 rfl (ee _) FL) ⟨_, ⟨_, rfl, rfl⟩, fun X2_2 hX => ?_⟩
  obtain ⟨BB, FK, FN, FH⟩ : Below V.heap.size V X2_2 ∧ (Ls X2_2 (.slice (some ⟨g12, 0, none⟩) 1 1) 1 (fun _ => .slice (some ⟨g11, 0, none⟩) 32 32) (fun _ => 32) (fun _ _ => 0)) ∧ (Nons X2_2 (.slice (some ⟨g14, 0, none⟩) 1 1) 1 (fun _ => oneF)) ∧ (SliceN X2_2 (.slice (some ⟨g18, 0, none⟩) 2 2) 2 hi) := by subst hX; exact ⟨frz_bel BB FG, (frz_ls FK), (frz_ns FN), frz_sl (hi_slice FL).sl⟩
  clear FL FG hX ee a
  refine rc_ 4 (chain1 I hg (.slice (some ⟨g18, 0, none⟩) 2 2) X2_2 BB FK FN FH) fun e X2 hh => ?_
  obtain ⟨v20, he, hk, hz_, hb⟩ := hh
  refine ⟨_, he, ?_⟩
  have bQ : Below X2_2.heap.size X2_2 X2 := hb
  have FC : (SliceN X2 v20 320 (rwF 1 (bks (fun _ _ => 0) (fun _ => oneF)) (fun _ => oneF) 2 hi)) := hk
  have FCz : (∀ l c, v20 = .slice none l c → c = 0) := hz_
  replace FK := (FK.on bQ)
  replace FN := (FN.on bQ)
  replace BB := BB.trans (bQ.mono BB.size)
  clear FH bQ
  refine rf_ [(3, v20), (4, .int .i64 ((0 : Nat) : Int))] (h2_ t1 t2) ?_
  rintro a A ⟨t3, t4, -⟩ ⟨t1, t2, -⟩
  refine wp_seq ?_
  refine wi_ A (h4_ t1 t2 t3 t4) (rc_ 3 (open1 I hg _ X2 BB FK FN FC FCz) fun e X3 hh => ?_)
  obtain ⟨v27, he, hk, hb⟩ := hh
  refine ⟨_, he, ?_⟩
  have bQ : Below X2.heap.size X2 X3 := hb
  have FO : (SliceN X3 v27 2 hi) := hk
  replace FK := (FK.on bQ)
  replace FN := (FN.on bQ)
  replace FC := (FC.on bQ)
  replace BB := BB.trans (bQ.mono BB.size)
  clear bQ
  refine rf_ [(5, v27), (6, .int .i64 ((0 : Nat) : Int))] (h4_ t1 t2 t3 t4) ?_
  rintro a A ⟨t5, t6, -⟩ ⟨t1, t2, t3, t4, -⟩
  refine wp_seq ?_
  refine wi_ A (h6_ t1 t2 t3 t4 t5 t6) (rc_ 1 (open0 I hg _ X3 BB FC FCz) fun e X4 hh => ?_)
  obtain ⟨v32, he, hb⟩ := hh
  refine ⟨_, he, ?_⟩
  have bQ : Below X3.heap.size X3 X4 := hb
  replace FK := (FK.on bQ)
  replace FN := (FN.on bQ)
  replace FC := (FC.on bQ)
  replace FO := (FO.on bQ)
  replace BB := BB.trans (bQ.mono BB.size)
  clear bQ
  refine rf_ [(8, .int .i64 ((80 : Nat) : Int))] (h6_ t1 t2 t3 t4 t5 t6) ?_
  rintro a A ⟨t8, -⟩ ⟨t1, t2, t3, t4, t5, t6, -⟩
  refine wp_seq ?_
  refine wj_ [0, 1, 2, 3, 4, 5, 6, 7, 8, 9, 10, 11] [6] [1, 2, 4, 5] [] A (h7_ t1 t2 t3 t4 t5 t6 t8) (fun X5_0 bD => ?_)
  refine dv_ 1 (.pointer (some ⟨adB (.slice (some ⟨g12, 0, none⟩) 1 1), adO (.slice (some ⟨g12, 0, none⟩) 1 1) + 0, none⟩)) (fun a X ee hb => execIdxLs (k := 0) ((FK.on hb)) rfl (ee _) rfl (by omega)) (dv_ 2 (.slice (some ⟨g11, 0, none⟩) 32 32) (fun a X ee hb => execLdLs (k := 0) (FK.on hb) rfl (ee _) (by omega)) (dv_ 4 (.pointer (some ⟨adB (.slice (some ⟨g14, 0, none⟩) 1 1), adO (.slice (some ⟨g14, 0, none⟩) 1 1) + 0 * 16, none⟩)) (fun a X ee hb => execIdxNs (k := 0) ((FN.on hb)) rfl (ee _) rfl (by omega)) (dv_ 5 (.agg (bA 16 oneF)) (fun a X ee hb => execLdNs (k := 0) (FN.on hb) rfl (ee _) (by omega)) (dc_ 6 (key1 I hg X5_0 (BB.trans (bD.mono BB.size)) ((FK.on bD).cell 0 (by omega))) fun e X5 hh => ?_))))
  obtain ⟨v42, he, hk, hb⟩ := hh
  refine ⟨_, he, ?_⟩
  have bQ : Below X5_0.heap.size X5_0 X5 := hb
  have FY : (SliceN X5 v42 32 (bk (fun _ => 0) oneF)) := hk
  replace bD := bD.trans (bQ.mono bD.size)
  clear bQ
  refine ⟨Or.inr bD, ?_⟩
  refine dz_ [(9, v42), (10, .int .i64 ((0 : Nat) : Int))] (h5_ t3 t4 t5 t6 t8) ?_
  rintro a A ⟨t9, t10, -⟩ ⟨t3, t4, t5, t6, t8, -⟩
  replace FK := (FK.on bD)
  replace FN := (FN.on bD)
  replace FC := (FC.on bD)
  replace FO := (FO.on bD)
  replace BB := BB.trans (bD.mono BB.size)
  clear bD
  refine wp_seq ?_
  refine wi_ A (h7_ t3 t4 t5 t6 t8 t9 t10) (rv_ 1 (.bool true) (fun a ee => execDec (execEqE (p := 0) (q := 0) rfl (ee _) rfl) (decide_eq_true (by rfl))) (rv_ 4 (.bool true) (fun a ee => execDec (execEqE (p := 0) (q := 0) rfl (ee _) rfl) (decide_eq_true (by rfl))) (rv_ 8 (.bool true) (fun a ee => execDec (execEqE (p := 80) (q := 80) rfl (ee _) rfl) (decide_eq_true (by rfl))) (rv_ 12 (.bool true) (fun a ee => execDec (execEqE (p := 0) (q := 0) rfl (ee _) rfl) (decide_eq_true (by rfl))) (rv_ 16 (.int .i64 ((320 : Nat) : Int)) (fun a ee => execLenV (len := 320) rfl (ee _) (shp (FC))) (rv_ 17 (.bool true) (fun a ee => execDec (execEqN (p := 320) (q := 320) rfl (ee _) rfl) (decide_eq_true (by rfl))) (rv_ 21 (.string (strN hi 2)) (fun a ee => execStr rfl (ee _) (FO)) (rv_ 22 (.bool true) (fun a ee => execEqlS rfl ((ee _).trans (congrArg Value.string hi_str)) rfl) (rv_ 26 (.int .i64 ((32 : Nat) : Int)) (fun a ee => execLenV (len := 32) rfl (ee _) (shp (FY))) (rv_ 27 (.bool true) (fun a ee => execDec (execEqN (p := 32) (q := 32) rfl (ee _) rfl) (decide_eq_true (by rfl))) (rg_ [(0, .bool true)] ?_)))))))))))
  rintro a A ⟨t0, -⟩
  refine wp_ret ?_
  repeat (first | with_reducible refine ret_in ?_ | with_reducible refine ret_then ?_)
  refine bodyPost_ret (results_tmp rfl _ _ _) A.2 ⟨?_, BB⟩
  show Ending.returned (a.eval (.tmp 0)) = _
  rw [t0]
end Go.Proofs.YtaiiomoajjhliaaDoor.Rpl
