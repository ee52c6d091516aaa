import Derived.Test.YteekoabgbjbabaaGreatDoorV8f
import Derived.Test.YteekoabgbjbabaaGreatDoorB7b
import Derived.Test.YteekoabgbjbabaaGreatDoorP3
import Derived.Test.YteekoabgbjbabaaGreatDoorX6l
import Derived.Test.YteekoabgbjbabaaGreatDoorB7f
namespace Go.Proofs.YteekoabgbjbabaaGreatDoor.Rpl
open Go.RowKit Gf8 Aes By8 Cel Cf Tap Drw Dro Oni Rou
/- Stage 27 (reply): the keys of the way back; nonces and blocks of 16 bytes read by their values. Written by tools/mkW8a.py. -/

/-- The bytes of 'churn back'. -/
def bkF : Nat → Nat := fun j => [99, 104, 117, 114, 110, 32, 98, 97, 99, 107].getD j 0
/-- A hop's key of the way back. -/
def bk (key nonce : Nat → Nat) : Nat → Nat := fun j => (ebK (exK (ci key) 32 (ci nonce) 16) 32 (ci bkF) 10 j).toNat
theorem bk_lt (key nonce : Nat → Nat) (j : Nat) : bk key nonce j < 256 := by
  have := eb_bd (inS (exK (ci key) 32 (ci nonce) 16) 32) (outS (exK (ci key) 32 (ci nonce) 16) 32) (ci bkF) 10 j
  unfold bk ebK
  omega
theorem bk_ci (key nonce : Nat → Nat) : ci (bk key nonce) = ebK (exK (ci key) 32 (ci nonce) 16) 32 (ci bkF) 10 := by
  funext j
  have := eb_bd (inS (exK (ci key) 32 (ci nonce) 16) 32) (outS (exK (ci key) 32 (ci nonce) 16) 32) (ci bkF) 10 j
  exact Int.toNat_of_nonneg this.1
/-- All of a chain's. -/
def bks (key nonce : Nat → Nat → Nat) (i : Nat) : Nat → Nat := bk (key i) (nonce i)
def keE (lk : Nat) : Nat := if lk = 32 then 0 else 2
def keN (lk : Nat) : Nat := if lk = 32 then 32 else 0
/-- Is it no chain? -/
def wgE (h hn : Nat) (lk : Nat → Nat) : Nat := if h < 1 ∨ 8 < h ∨ hn ≠ h then 80 else if ksOk h lk then 0 else 2
theorem rw_wg (h hn : Nat) (lk : Nat → Nat) (n : Nat) : rwE h hn lk n = if wgE h hn lk ≠ 0 then wgE h hn lk else if 48 < n then 1 else 0 := by
  unfold rwE wgE
  by_cases e : h < 1 ∨ 8 < h ∨ hn ≠ h
  · rw [if_pos e, if_pos e]; rfl
  · rw [if_neg e, if_neg e]
    cases ksOk h lk <;> rfl
theorem wg_ok {h hn : Nat} {lk : Nat → Nat} (e : wgE h hn lk = 0) : 1 ≤ h ∧ h ≤ 8 ∧ hn = h ∧ ∀ i, i < h → lk i = 32 := by
  unfold wgE at e
  split at e
  · cases e
  · split at e
    · rename_i q1 q2; exact ⟨by omega, by omega, by omega, (ksOk_iff h lk).1 q2⟩
    · cases e
/-- What Open answers. -/
def opE (h hn : Nat) (lk : Nat → Nat) (key nonce : Nat → Nat → Nat) (len : Nat) (c : Nat → Nat) : Nat := if wgE h hn lk ≠ 0 then wgE h hn lk else if Rou.wkG h (bks key nonce) (fun _ => 32) len c h ≠ 0 then Rou.wkG h (bks key nonce) (fun _ => 32) len c h else openE (wkC h (bks key nonce) c h) (wkL len h)
def opN (h hn : Nat) (lk : Nat → Nat) (key nonce : Nat → Nat → Nat) (len : Nat) (c : Nat → Nat) : Nat := if wgE h hn lk ≠ 0 then 0 else if Rou.wkG h (bks key nonce) (fun _ => 32) len c h ≠ 0 then 0 else openN (wkC h (bks key nonce) c h) (wkL len h)
def opF (h : Nat) (key nonce : Nat → Nat → Nat) (c : Nat → Nat) (j : Nat) : Nat := wkC h (bks key nonce) c h (2 + j)
section
variable {W : World} {v : Value} {n k : Nat} {q : Nat → Nat → Nat} {o : Oper} {a : Act} {x y : Operand} {g : Nat} {nonce : Nat → Nat}
theorem nshp (h : Nons W v n q) : ∃ a cap, v = .slice a n cap := by
  obtain ⟨a, cap, e, _⟩ := h.shape
  exact ⟨a, cap, e⟩
theorem execLenNs (h : Nons W v n q) (ho : o.op = .call { callee := .builtin .len, args := #[x], argTypes := #[23] }) (hx : a.eval x = v) : (execOp a.eval o).run Tryz.prog W = .ok (.value (.int .i64 (n : Int))) W := by
  obtain ⟨ao, c, rfl⟩ := nshp h
  unfold execOp
  simp only [ho]
  simp [go_sem] at hx ⊢
  simp [hx, go_sem]
theorem execIdxNs (h : Nons W v n q) (ho : o.op = .indexAddr 23 x y) (hx : a.eval x = v) (hy : a.eval y = .int .i64 (k : Int)) (hk : k < n) : (execOp a.eval o).run Tryz.prog W = .ok (.value (.pointer (some ⟨adB v, adO v + k * 16, none⟩))) W := by
  obtain ⟨ad, cap, rfl, _, _, e⟩ := h.shape
  obtain ⟨b, off, rfl, _⟩ := e (by omega)
  exact execIdxA ho hx hy hk
theorem execLdNs (h : Nons W v n q) (ho : o.op = .load 35 x) (hx : a.eval x = .pointer (some ⟨adB v, adO v + k * 16, none⟩)) (hk : k < n) : (execOp a.eval o).run Tryz.prog W = .ok (.value (.agg (bA 16 (q k)))) W := by
  obtain ⟨ad, cap, rfl, _, _, e⟩ := h.shape
  obtain ⟨b, off, rfl, _, hc⟩ := e (by omega)
  exact execLdList ho hx (hc k hk) Tryz.underlying35 rfl (by kernel_rfl)
theorem execBx16 (ho : o.op = .box 35 x) (hx : a.eval x = .agg (bA 16 nonce)) : (execOp a.eval o).run Tryz.prog W = .ok (.value (.pointer (some ⟨W.heap.size, 0, none⟩))) (W.alloc (.cells (bA 16 nonce) 35)) := by
  unfold execOp
  simp only [ho, hx]
  simp [go_sem]
theorem execSl16 (ho : o.op = .slice 35 x none none none) (hx : a.eval x = .pointer (some ⟨g, 0, none⟩)) : (execOp a.eval o).run Tryz.prog W = .ok (.value (.slice (some ⟨g, 0, none⟩) 16 16)) W := by
  unfold execOp
  simp only [ho, hx]
  simp [go_sem, Instr.sliceAt, Instr.slice, run_underlying Tryz.underlying35]
theorem slice16 (h : W.heap[g]? = some (.cells (bA 16 nonce) 35)) (hn : By nonce) : SliceN W (.slice (some ⟨g, 0, none⟩) 16 16) 16 nonce :=
  Cf.lit_slice h (fun j hj => by rw [← Array.getElem?_toList]; exact bytesL_at 16 _ hj) hn (by omega)
theorem execLdH16 (h : W.heap[g]? = some (.cells (bA 16 nonce) 35)) (ho : o.op = .load 35 x) (hx : a.eval x = .pointer (some ⟨g, 0, none⟩)) : (execOp a.eval o).run Tryz.prog W = .ok (.value (.agg (bA 16 nonce))) W := execLdAll ho hx h Tryz.underlying35 rfl (by rw [bA_size]; kernel_rfl)
theorem execBsBk (ho : o.op = .buildSlice 24 10 #[(0, .const (.int .u8 99)), (1, .const (.int .u8 104)), (2, .const (.int .u8 117)), (3, .const (.int .u8 114)), (4, .const (.int .u8 110)), (5, .const (.int .u8 32)), (6, .const (.int .u8 98)), (7, .const (.int .u8 97)), (8, .const (.int .u8 99)), (9, .const (.int .u8 107))]) : (execOp a.eval o).run Tryz.prog W = .ok (.value (.slice (some ⟨W.heap.size, 0, none⟩) 10 10)) (W.alloc (.cells (bA 10 bkF) 5)) := by
  unfold execOp
  simp only [ho]
  simp [go_sem]
  rfl
theorem bk_b : ∀ j, j < 10 → bkF j < 256 := by decide
theorem bk_slice {fr : Nat × Nat} (h : W.heap[g]? = some (.cells (bA 10 bkF) 5 fr)) : SliceN W (.slice (some ⟨g, 0, none⟩) 10 10) 10 bkF :=
  Cf.lit_slice h (fun j hj => by rw [← Array.getElem?_toList]; exact bytesL_at 10 _ hj) (fun j hj => bk_b j hj) (by omega)
theorem conv27 {b : Nat} {C : Array Value} {fr : Nat × Nat} (n c : Nat) (h : W.heap[b]? = some (.cells C 5 fr)) : (convert 24 24 (.slice (some ⟨b, 0, none⟩) n c)).run Tryz.prog W = .ok (.slice (some ⟨b, 0, none⟩) n c) (W.freeze ⟨b, C.size, none⟩ 1) := by
  have hsh : W.shape? b = some (5, C.size) := by unfold World.shape?; rw [h]
  simp [convert, run_underlying Tryz.underlying24, run_underlying Tryz.underlying5, markStringish, hsh]
theorem execCvB7 {b : Nat} {C : Array Value} {n c : Nat} (ho : o.op = .convert 24 24 x) (hx : a.eval x = .slice (some ⟨b, 0, none⟩) n c) (h : W.heap[b]? = some (.cells C 5)) : (execOp a.eval o).run Tryz.prog W = .ok (.value (.slice (some ⟨b, 0, none⟩) n c)) (W.freeze ⟨b, C.size, none⟩ 1) := by
  unfold execOp
  simp only [ho, hx, Sem.run_bind, conv27 n c h, Result.andThen_ok, Sem.run_pure]
theorem frz_heap {b k : Nat} : (∀ i, i ≠ b → (W.freeze ⟨b, k, none⟩ 1).heap[i]? = W.heap[i]?) ∧ (W.freeze ⟨b, k, none⟩ 1).heap.size = W.heap.size := by
  unfold World.freeze
  rw [if_neg (by decide)]
  refine ⟨fun i hi => ?_, by simp⟩
  simp only [Array.getElem?_modify]
  rw [if_neg (fun e => hi e.symm)]
theorem frz_cell {b k : Nat} (p : Addr) : (W.freeze ⟨b, k, none⟩ 1).cell? p = W.cell? p := by
  unfold World.freeze World.cell?
  rw [if_neg (by decide)]
  simp only [Array.getElem?_modify]
  by_cases e : b = p.block
  · subst e
    rw [if_pos rfl]
    cases q : W.heap[p.block]? with
    | none => rfl
    | some ob => cases ob <;> rfl
  · rw [if_neg e]
theorem frz_sl {b k n : Nat} {v : Value} {p : Nat → Nat} (h : SliceN W v n p) : SliceN (W.freeze ⟨b, k, none⟩ 1) v n p := by
  obtain ⟨⟨a, cap, e, h1, h2, h3⟩, hp⟩ := h
  refine ⟨⟨a, cap, e, h1, h2, fun h0 => ?_⟩, hp⟩
  obtain ⟨b', off, e2, hb, hc⟩ := h3 h0
  exact ⟨b', off, e2, by rw [frz_heap.2]; exact hb, fun j hj => by rw [frz_cell]; exact hc j hj⟩
theorem frz_bel {V : World} {B b k : Nat} (h : Below B V W) (hb : B ≤ b) : Below B V (W.freeze ⟨b, k, none⟩ 1) := by
  refine h.trans ⟨?_, ?_, ?_, by rw [frz_heap.2]; exact Nat.le_refl _, fun i hi => frz_heap.1 i (by omega)⟩ <;> (unfold World.freeze; rw [if_neg (by decide)])
end
end Go.Proofs.YteekoabgbjbabaaGreatDoor.Rpl

namespace Go.Proofs.YteekoabgbjbabaaGreatDoor.Rpl
open Go.RowKit Gf8 Aes By8 Cel Cf Tap Drw Dro Oni Rou
/- Stage 27: the reference's Key, Wrap, wrong. Written by tools/mkW8b.py. -/

theorem nil_sl (W : World) (f : Nat → Nat) : SliceN W (.slice none 0 0) 0 f := ⟨⟨none, 0, rfl, Nat.le_refl _, by omega, fun h => by omega⟩, fun j hj => by omega⟩
theorem rderB (vs vt vi : Value) (key nonce : Nat → Nat) (w : World) (h0 : SliceN w vs 32 key) (h1 : SliceN w vt 16 nonce) (h2 : SliceN w vi 10 bkF) :
    Calls Tryz.prog 36 #[vs, vt, vi, .int .i64 32] w fun e w' => ∃ v', e = .returned (.tuple #[v', .int .i64 0]) ∧ SliceN w' v' 32 (bk key nonce) ∧ Below w.heap.size w w' := by
  refine (rderive_any vs vt vi 32 16 10 (ci key) (ci nonce) (ci bkF) 32 w (by omega) (by omega) (by omega) (toB h0) (toB h1) (toB h2) (some_nil h0 (by omega)) (some_nil h1 (by omega)) (some_nil h2 (by omega))).mono ?_
  rintro e w' ⟨v', rfl, s, hb⟩
  rw [show expN 32 = 32 from rfl, ← bk_ci] at s
  exact ⟨v', rfl, ⟨s.shape, fun j _ => bk_lt _ _ j⟩, hb⟩
set_option maxRecDepth 100000 in
set_option maxHeartbeats 4000000 in
/-- The reference's Key. -/
theorem rkey27 (key nonce : Nat → Nat) (lk : Nat) (v : Value) (V : World) (hn : By nonce) (hv : SliceN V v lk key) :
    Calls Tryz.prog 22 #[v, .agg (bA 16 nonce)] V fun e w' => (∃ r, e = .returned (.tuple #[r, .int .i64 ((keE lk : Nat) : Int)]) ∧ SliceN w' r (keN lk) (bk key nonce)) ∧ Below V.heap.size V w' := by
  go_enter Tryz.func22, Tryz.ntmps22
  refine wo_ 16 [(0, v), (1, .agg (bA 16 nonce))] ?_
  rintro a A ⟨t0, t1, -⟩
  have BW : Below V.heap.size V V := Below.refl _ _
  have BB := BW
  refine wp_seq ?_
  obtain ⟨g3, egg3⟩ : ∃ z_ : Nat, V.heap.size = z_ := ⟨_, rfl⟩
  refine wi_ A (h2_ t0 t1) (rs_ 0 (fun a ee => ?_))
  refine stepV rfl rfl (execBx16 rfl (ee _)) ⟨.pointer (some ⟨g3, 0, none⟩), ⟨_, rfl, by subst egg3; rfl⟩, fun X0 hX => ?_⟩
  have bQ : Below V.heap.size V X0 := by subst hX egg3; exact (belNew V _)
  have Fg3 : (X0.heap[g3]? = some (.cells (bA 16 nonce) 35)) := by subst hX egg3; exact heapNew V _
  replace BB := BB.trans (bQ.mono BB.size)
  clear bQ hX egg3 ee a
  refine rf_ [(3, .pointer (some ⟨g3, 0, none⟩)), (4, .slice none 0 0), (5, .int .i64 ((0 : Nat) : Int))] (h1_ t0) ?_
  rintro a A ⟨t3, t4, t5, -⟩ ⟨t0, -⟩
  refine wp_seq ?_
  refine wp_seq ?_
  by_cases h1 : lk = 32
  · subst h1
    refine wi_ A (h4_ t0 t3 t4 t5) (rv_ 1 (.int .i64 ((32 : Nat) : Int)) (fun a ee => execLenV (len := 32) rfl (ee _) (shp (hv.on BB))) (rv_ 2 (.bool false) (fun a ee => execDec (execNeN (p := 32) (q := 32) rfl (ee _) rfl) (decide_eq_false (by omega))) (rf_ [(8, .bool false)] (h2_ t0 t3) ?_)))
    rintro a A ⟨t8, -⟩ ⟨t0, t3, -⟩
    refine wp_cond_false t8 ?_
    refine wp_skip ?_
    clear t8
    have FN : SliceN X0 (.slice (some ⟨g3, 0, none⟩) 16 16) 16 nonce := slice16 Fg3 hn
    clear Fg3
    refine wp_seq ?_
    obtain ⟨g11, egg11⟩ : ∃ z_ : Nat, X0.heap.size = z_ := ⟨_, rfl⟩
    refine wi_ A (h2_ t0 t3) (rv_ 1 (.slice (some ⟨g3, 0, none⟩) 16 16) (fun a ee => execSl16 rfl (ee _)) (rs_ 2 (fun a ee => ?_)))
    refine stepV rfl rfl (execBsBk rfl) ⟨.slice (some ⟨g11, 0, none⟩) 10 10, ⟨_, rfl, by subst egg11; rfl⟩, fun X3_1 hX => ?_⟩
    have bQ : Below X0.heap.size X0 X3_1 := by subst hX egg11; exact (belNew X0 _)
    have FL : (X3_1.heap[g11]? = some (.cells (bA 10 bkF) 5)) := by subst hX egg11; exact heapNew X0 _
    have FG : (V.heap.size ≤ g11) := by subst hX egg11; exact (BB).size
    replace FN := (FN.on bQ)
    replace BB := BB.trans (bQ.mono BB.size)
    clear bQ hX egg11 ee a
    refine rs_ 3 (fun a ee => ?_)
    refine stepV rfl rfl (execCvB7 rfl (ee _) FL) ⟨_, ⟨_, rfl, rfl⟩, fun X3_2 hX => ?_⟩
    obtain ⟨BB, FN, FK⟩ : Below V.heap.size V X3_2 ∧ (SliceN X3_2 (.slice (some ⟨g3, 0, none⟩) 16 16) 16 nonce) ∧ (SliceN X3_2 (.slice (some ⟨g11, 0, none⟩) 10 10) 10 bkF) := by subst hX; exact ⟨frz_bel BB FG, (frz_sl FN), frz_sl (bk_slice FL)⟩
    clear FL FG hX ee a
    refine rc_ 4 (rderB _ _ _ key nonce X3_2 (hv.on BB) FN FK) fun e X3 hh => ?_
    obtain ⟨v13, he, hk, hb⟩ := hh
    refine ⟨_, he, ?_⟩
    have bQ : Below X3_2.heap.size X3_2 X3 := hb
    have FR : (SliceN X3 v13 32 (bk key nonce)) := hk
    replace FN := (FN.on bQ)
    replace FK := (FK.on bQ)
    replace BB := BB.trans (bQ.mono BB.size)
    clear bQ
    refine rg_ [(4, v13), (5, .int .i64 ((0 : Nat) : Int))] ?_
    rintro a A ⟨t4, t5, -⟩
    refine wp_ret ?_
    repeat (first | with_reducible refine ret_in ?_ | with_reducible refine ret_then ?_)
    refine bodyPost_ret (results_tmp2 rfl _ _ _) A.2 ⟨⟨_, ?_, FR⟩, BB⟩
    show Ending.returned (.tuple #[a.eval (.tmp 4), a.eval (.tmp 5)]) = _
    rw [t4, t5]
    rfl
  · refine wi_ A (h4_ t0 t3 t4 t5) (rv_ 1 (.int .i64 ((lk : Nat) : Int)) (fun a ee => execLenV (len := lk) rfl (ee _) (shp (hv.on BB))) (rv_ 2 (.bool true) (fun a ee => execDec (execNeN (p := lk) (q := 32) rfl (ee _) rfl) (decide_eq_true (by omega))) (rf_ [(8, .bool true)] (h1_ t0) ?_)))
    rintro a A ⟨t8, -⟩ ⟨t0, -⟩
    refine wp_cond_true t8 ?_
    clear t8
    refine wp_seq ?_
    refine wi_ A (h1_ t0) (rg_ [(4, .slice none 0 0), (5, .int .i64 ((2 : Nat) : Int))] ?_)
    rintro a A ⟨t4, t5, -⟩
    rw [show keE lk = 2 from if_neg h1, show keN lk = 0 from if_neg h1]
    refine wp_ret ?_
    repeat (first | with_reducible refine ret_in ?_ | with_reducible refine ret_then ?_)
    refine bodyPost_ret (results_tmp2 rfl _ _ _) A.2 ⟨⟨_, ?_, nil_sl _ _⟩, BB⟩
    show Ending.returned (.tuple #[a.eval (.tmp 4), a.eval (.tmp 5)]) = _
    rw [t4, t5]
set_option maxRecDepth 100000 in
set_option maxHeartbeats 4000000 in
/-- The reference's Wrap. -/
theorem rwrap27 (key nonce inner : Nat → Nat) (lk n : Nat) (left : Int) (v vi : Value) (V : World) (hn : By nonce) (hv : SliceN V v lk key) (hi : SliceN V vi n inner) (hnl : n ≤ 140737488351232) :
    Calls Tryz.prog 13 #[v, .agg (bA 16 nonce), .int .i64 left, vi] V fun e w' => (∃ r, e = .returned (.tuple #[r, .int .i64 ((wrE lk left n : Nat) : Int)]) ∧ w'.ownsRow V.heap.size 5 1 r (wrN lk left n) (bytesL (wrN lk left n) (wrF (bk key nonce) nonce left.toNat n inner))) ∧ Below V.heap.size V w' := by
  go_enter Tryz.func13, Tryz.ntmps13
  refine wo_ 28 [(0, v), (1, .agg (bA 16 nonce)), (2, .int .i64 left), (3, vi)] ?_
  rintro a A ⟨t0, t1, t2, t3, -⟩
  have BW : Below V.heap.size V V := Below.refl _ _
  have BB := BW
  refine wp_seq ?_
  obtain ⟨g5, egg5⟩ : ∃ z_ : Nat, V.heap.size = z_ := ⟨_, rfl⟩
  refine wi_ A (h4_ t0 t1 t2 t3) (rs_ 0 (fun a ee => ?_))
  refine stepV rfl rfl (execBx16 rfl (ee _)) ⟨.pointer (some ⟨g5, 0, none⟩), ⟨_, rfl, by subst egg5; rfl⟩, fun X0 hX => ?_⟩
  have bQ : Below V.heap.size V X0 := by subst hX egg5; exact (belNew V _)
  have Fg5 : (X0.heap[g5]? = some (.cells (bA 16 nonce) 35)) := by subst hX egg5; exact heapNew V _
  replace BB := BB.trans (bQ.mono BB.size)
  clear bQ hX egg5 ee a
  refine rf_ [(5, .pointer (some ⟨g5, 0, none⟩))] (h3_ t0 t2 t3) ?_
  rintro a A ⟨t5, -⟩ ⟨t0, t2, t3, -⟩
  refine wp_seq ?_
  refine wi_ A (h4_ t0 t2 t3 t5) (rv_ 1 (.agg (bA 16 nonce)) (fun a ee => execLdH16 Fg5 rfl (ee _)) (rc_ 2 (rkey27 key nonce lk _ X0 hn (hv.on BB)) fun e X1 hh => ?_))
  obtain ⟨⟨v15, he, hk⟩, hb⟩ := hh
  refine ⟨_, he, ?_⟩
  have bQ : Below X0.heap.size X0 X1 := hb
  have FR : (SliceN X1 v15 (keN lk) (bk key nonce)) := hk
  replace Fg5 := (on9 Fg5 bQ)
  replace BB := BB.trans (bQ.mono BB.size)
  clear bQ
  refine rf_ [(10, v15), (11, .int .i64 ((keE lk : Nat) : Int))] (h3_ t2 t3 t5) ?_
  rintro a A ⟨t10, t11, -⟩ ⟨t2, t3, t5, -⟩
  refine wp_seq ?_
  refine wp_seq ?_
  by_cases h1 : lk = 32
  · have e0 : keE lk = 0 := if_pos h1
    refine wi_ A (h5_ t2 t3 t5 t10 t11) (rv_ 1 (.bool false) (fun a ee => execDec (execNeN (p := keE lk) (q := 0) rfl (ee _) rfl) (decide_eq_false (by omega))) (rf_ [(19, .bool false)] (h4_ t2 t3 t5 t10) ?_))
    rintro a A ⟨t19, -⟩ ⟨t2, t3, t5, t10, -⟩
    refine wp_cond_false t19 ?_
    refine wp_skip ?_
    clear t19
    replace FR : SliceN X1 v15 32 (bk key nonce) := by rw [show keN lk = 32 from if_pos h1] at FR; exact FR
    refine wp_seq ?_
    refine wi_ A (h4_ t2 t3 t5 t10) (rv_ 1 (.agg (bA 16 nonce)) (fun a ee => execLdH16 Fg5 rfl (ee _)) (rc_ 4 (rwrap_any (bk key nonce) nonce inner 32 n left _ _ X1 FR hn (hi.on BB) hnl) fun e X4 hh => ?_))
    obtain ⟨v25, he, hk, hb⟩ := hh
    refine ⟨_, he, ?_⟩
    have bQ : Below X1.heap.size X1 X4 := hb
    have FO : (X4.ownsRow V.heap.size 5 1 v25 (wrN 32 left n) (bytesL (wrN 32 left n) (wrF (bk key nonce) nonce left.toNat n inner))) := own_base hk (BB).size
    replace Fg5 := (on9 Fg5 bQ)
    replace FR := (FR.on bQ)
    replace BB := BB.trans (bQ.mono BB.size)
    clear bQ
    refine rg_ [(8, v25), (9, .int .i64 ((wrE 32 left n : Nat) : Int))] ?_
    rintro a A ⟨t8, t9, -⟩
    rw [h1]
    refine wp_ret ?_
    repeat (first | with_reducible refine ret_in ?_ | with_reducible refine ret_then ?_)
    refine bodyPost_ret (results_tmp2 rfl _ _ _) A.2 ⟨⟨_, ?_, FO⟩, BB⟩
    show Ending.returned (.tuple #[a.eval (.tmp 8), a.eval (.tmp 9)]) = _
    rw [t8, t9]
  · have e0 : keE lk = 2 := if_neg h1
    refine wi_ A (h5_ t2 t3 t5 t10 t11) (rv_ 1 (.bool true) (fun a ee => execDec (execNeN (p := keE lk) (q := 0) rfl (ee _) rfl) (decide_eq_true (by omega))) (rf_ [(19, .bool true)] (h1_ t11) ?_))
    rintro a A ⟨t19, -⟩ ⟨t11, -⟩
    refine wp_cond_true t19 ?_
    clear t19
    refine wp_seq ?_
    refine wi_ A (h1_ t11) (rg_ [(8, .slice none 0 0), (9, .int .i64 ((keE lk : Nat) : Int))] ?_)
    rintro a A ⟨t8, t9, -⟩
    have ew : wrE lk left n = 2 := if_pos (Or.inl h1)
    rw [ew, show wrN lk left n = 0 by unfold wrN; rw [ew]; rfl, ← e0]
    refine wp_ret ?_
    repeat (first | with_reducible refine ret_in ?_ | with_reducible refine ret_then ?_)
    refine bodyPost_ret (results_tmp2 rfl _ _ _) A.2 ⟨⟨_, ?_, World.ownsRow_nil _ _ _ _⟩, BB⟩
    show Ending.returned (.tuple #[a.eval (.tmp 8), a.eval (.tmp 9)]) = _
    rw [t8, t9]
set_option maxRecDepth 100000 in
set_option maxHeartbeats 4000000 in
/-- The reference's wrong. -/
theorem wrong27 (h hn : Nat) (kv nv : Value) (xv : Nat → Value) (lk : Nat → Nat) (key q : Nat → Nat → Nat) (V : World) (hK : Ls V kv h xv lk key) (hN : Nons V nv hn q) (hh : h ≤ 140737488351232) :
    Calls Tryz.prog 12 #[kv, nv] V fun e w' => e = .returned (.int .i64 ((wgE h hn lk : Nat) : Int)) ∧ Below V.heap.size V w' := by
  go_enter Tryz.func12, Tryz.ntmps12
  refine wo_ 33 [(0, kv), (1, nv)] ?_
  rintro a A ⟨t0, t1, -⟩
  have BW : Below V.heap.size V V := Below.refl _ _
  have BB := BW
  refine wp_seq ?_
  refine wi_ A (h2_ t0 t1) (rf_ [] (h2_ t0 t1) ?_)
  rintro a A - ⟨t0, t1, -⟩
  refine wp_seq ?_
  refine wp_seq ?_
  by_cases h1 : h < 1
  · refine wi_ A (h2_ t0 t1) (rv_ 1 (.int .i64 ((h : Nat) : Int)) (fun a ee => execLenLL rfl (ee _) (hK.on BB).shp) (rv_ 2 (.bool true) (fun a ee => execDec (execLtW (p := h) (q := 1) rfl (ee _) rfl) (decide_eq_true (by omega))) (rf_ [(20, .bool true)] (h2_ t0 t1) ?_)))
    rintro a A ⟨t20, -⟩ ⟨t0, t1, -⟩
    refine wp_cond_true t20 ?_
    clear t20
    refine wp_seq ?_
    refine wi_ A (h2_ t0 t1) (rg_ [(4, .int .i64 ((80 : Nat) : Int))] ?_)
    rintro a A ⟨t4, -⟩
    rw [show wgE h hn lk = 80 from if_pos (by omega)]
    refine wp_ret ?_
    repeat (first | with_reducible refine ret_in ?_ | with_reducible refine ret_then ?_)
    refine bodyPost_ret (results_tmp rfl _ _ _) A.2 ⟨?_, BB⟩
    show Ending.returned (a.eval (.tmp 4)) = _
    rw [t4]
  by_cases h2 : 8 < h
  · refine wi_ A (h2_ t0 t1) (rv_ 1 (.int .i64 ((h : Nat) : Int)) (fun a ee => execLenLL rfl (ee _) (hK.on BB).shp) (rv_ 2 (.bool false) (fun a ee => execDec (execLtW (p := h) (q := 1) rfl (ee _) rfl) (decide_eq_false (by omega))) (rv_ 5 (.int .i64 ((h : Nat) : Int)) (fun a ee => execLenLL rfl (ee _) (hK.on BB).shp) (rv_ 6 (.bool true) (fun a ee => execDec (execGtN (p := h) (q := 8) rfl (ee _) rfl) (decide_eq_true (by omega))) (rf_ [(20, .bool true)] (h2_ t0 t1) ?_)))))
    rintro a A ⟨t20, -⟩ ⟨t0, t1, -⟩
    refine wp_cond_true t20 ?_
    clear t20
    refine wp_seq ?_
    refine wi_ A (h2_ t0 t1) (rg_ [(4, .int .i64 ((80 : Nat) : Int))] ?_)
    rintro a A ⟨t4, -⟩
    rw [show wgE h hn lk = 80 from if_pos (by omega)]
    refine wp_ret ?_
    repeat (first | with_reducible refine ret_in ?_ | with_reducible refine ret_then ?_)
    refine bodyPost_ret (results_tmp rfl _ _ _) A.2 ⟨?_, BB⟩
    show Ending.returned (a.eval (.tmp 4)) = _
    rw [t4]
  by_cases h3 : hn ≠ h
  · refine wi_ A (h2_ t0 t1) (rv_ 1 (.int .i64 ((h : Nat) : Int)) (fun a ee => execLenLL rfl (ee _) (hK.on BB).shp) (rv_ 2 (.bool false) (fun a ee => execDec (execLtW (p := h) (q := 1) rfl (ee _) rfl) (decide_eq_false (by omega))) (rv_ 5 (.int .i64 ((h : Nat) : Int)) (fun a ee => execLenLL rfl (ee _) (hK.on BB).shp) (rv_ 6 (.bool false) (fun a ee => execDec (execGtN (p := h) (q := 8) rfl (ee _) rfl) (decide_eq_false (by omega))) (rv_ 10 (.int .i64 ((hn : Nat) : Int)) (fun a ee => execLenNs (hN.on BB) rfl (ee _)) (rv_ 12 (.int .i64 ((h : Nat) : Int)) (fun a ee => execLenLL rfl (ee _) (hK.on BB).shp) (rv_ 13 (.bool true) (fun a ee => execDec (execNeN (p := hn) (q := h) rfl (ee _) (ee _)) (decide_eq_true (by omega))) (rf_ [(20, .bool true)] (h2_ t0 t1) ?_))))))))
    rintro a A ⟨t20, -⟩ ⟨t0, t1, -⟩
    refine wp_cond_true t20 ?_
    clear t20
    refine wp_seq ?_
    refine wi_ A (h2_ t0 t1) (rg_ [(4, .int .i64 ((80 : Nat) : Int))] ?_)
    rintro a A ⟨t4, -⟩
    rw [show wgE h hn lk = 80 from if_pos (by omega)]
    refine wp_ret ?_
    repeat (first | with_reducible refine ret_in ?_ | with_reducible refine ret_then ?_)
    refine bodyPost_ret (results_tmp rfl _ _ _) A.2 ⟨?_, BB⟩
    show Ending.returned (a.eval (.tmp 4)) = _
    rw [t4]
  refine wi_ A (h2_ t0 t1) (rv_ 1 (.int .i64 ((h : Nat) : Int)) (fun a ee => execLenLL rfl (ee _) (hK.on BB).shp) (rv_ 2 (.bool false) (fun a ee => execDec (execLtW (p := h) (q := 1) rfl (ee _) rfl) (decide_eq_false (by omega))) (rv_ 5 (.int .i64 ((h : Nat) : Int)) (fun a ee => execLenLL rfl (ee _) (hK.on BB).shp) (rv_ 6 (.bool false) (fun a ee => execDec (execGtN (p := h) (q := 8) rfl (ee _) rfl) (decide_eq_false (by omega))) (rv_ 10 (.int .i64 ((hn : Nat) : Int)) (fun a ee => execLenNs (hN.on BB) rfl (ee _)) (rv_ 12 (.int .i64 ((h : Nat) : Int)) (fun a ee => execLenLL rfl (ee _) (hK.on BB).shp) (rv_ 13 (.bool false) (fun a ee => execDec (execNeN (p := hn) (q := h) rfl (ee _) (ee _)) (decide_eq_false (by omega))) (rf_ [(20, .bool false)] (h2_ t0 t1) ?_))))))))
  rintro a A ⟨t20, -⟩ ⟨t0, t1, -⟩
  refine wp_cond_false t20 ?_
  refine wp_skip ?_
  clear t20
  have e0 : wgE h hn lk = if ksOk h lk then 0 else 2 := if_neg (by omega)
  refine wp_seq ?_
  refine wp_seq ?_
  refine wi_ A (h2_ t0 t1) (rf_ [(5, .int .i64 ((0 : Nat) : Int))] (h1_ t0) ?_)
  rintro a A ⟨t5, -⟩ ⟨t0, -⟩
  refine wp_block ?_
  refine wp_loop (fun a W => ∃ (i : Nat), i ≤ h ∧ (∀ k, k < i → lk k = 32) ∧ (a.tmps.size = 33 ∧ a.defers = []) ∧ a.eval (.tmp 0) = kv ∧ a.eval (.tmp 5) = .int .i64 ((i : Nat) : Int) ∧ Below V.heap.size V W) (fun a _ => h - (intOf (a.eval (.tmp 5))).toNat) ⟨0, Nat.zero_le _, fun k hk => absurd hk (Nat.not_lt_zero k), A, t0, t5, BB⟩ ?_
  clear A t0 t5 BB a
  rintro a XL4 ⟨i, hi, hs, A, t0, t5, BB⟩
  have esi := t5
  refine wp_seq ?_
  refine wp_seq ?_
  refine wi_ A (h2_ t0 t5) (rv_ 2 (.int .i64 ((h : Nat) : Int)) (fun a ee => execLenLL rfl (ee _) (hK.on BB).shp) (rv_ 3 (.bool (decide (i < h))) (fun a ee => execLtW (p := i) (q := h) rfl (ee _) (ee _)) (rf_ [(24, .bool (decide (i < h)))] (h2_ t0 t5) ?_)))
  rintro a A ⟨t24, -⟩ ⟨t0, t5, -⟩
  by_cases lti : i < h
  · rw [decide_eq_true lti] at t24
    refine wp_cond_true t24 ?_
    refine wp_skip ?_
    clear t24
    refine wp_seq ?_
    refine wp_block ?_
    refine wp_seq ?_
    by_cases h4 : lk i = 32
    · refine wi_ A (h2_ t0 t5) (rv_ 2 (.pointer (some ⟨adB kv, adO kv + i, none⟩)) (fun a ee => execIdxLs (k := i) (hK.on BB) rfl (ee _) (ee _) lti) (rv_ 3 (xv i) (fun a ee => execLdLs (k := i) (hK.on BB) rfl (ee _) lti) (rv_ 4 (.int .i64 ((lk i : Nat) : Int)) (fun a ee => execLenV (len := lk i) rfl (ee _) (shp (((hK.on BB).cell i lti)))) (rv_ 5 (.bool false) (fun a ee => execDec (execNeN (p := lk i) (q := 32) rfl (ee _) rfl) (decide_eq_false (by omega))) (rf_ [(32, .bool false)] (h2_ t0 t5) ?_)))))
      rintro a A ⟨t32, -⟩ ⟨t0, t5, -⟩
      refine wp_cond_false t32 ?_
      refine wp_skip ?_
      clear t32
      have hs2 : ∀ k, k < i + 1 → lk k = 32 := fun k hk => by
        by_cases e : k = i
        · subst e; exact h4
        · exact hs k (by omega)
      refine wi_ A (h2_ t0 t5) (rv_ 1 (.int .i64 ((i + 1 : Nat) : Int)) (fun a ee => execAd8 (p := i) (q := 1) rfl (ee _) rfl (by omega)) (rf_ [(5, .int .i64 ((i + 1 : Nat) : Int))] (h1_ t0) ?_))
      rintro a A ⟨t5, -⟩ ⟨t0, -⟩
      exact ⟨⟨i + 1, lti, hs2, A, t0, t5, BB⟩, by show h - (intOf (a.eval (.tmp 5))).toNat < h - (intOf (Act.eval _ (.tmp 5))).toNat; rw [t5, esi]; show h - (i + 1) < h - i; omega⟩
    · refine wi_ A (h2_ t0 t5) (rv_ 2 (.pointer (some ⟨adB kv, adO kv + i, none⟩)) (fun a ee => execIdxLs (k := i) (hK.on BB) rfl (ee _) (ee _) lti) (rv_ 3 (xv i) (fun a ee => execLdLs (k := i) (hK.on BB) rfl (ee _) lti) (rv_ 4 (.int .i64 ((lk i : Nat) : Int)) (fun a ee => execLenV (len := lk i) rfl (ee _) (shp (((hK.on BB).cell i lti)))) (rv_ 5 (.bool true) (fun a ee => execDec (execNeN (p := lk i) (q := 32) rfl (ee _) rfl) (decide_eq_true (by omega))) (rf_ [(32, .bool true)] (h1_ t0) ?_)))))
      rintro a A ⟨t32, -⟩ ⟨t0, -⟩
      refine wp_cond_true t32 ?_
      clear t32
      refine wp_seq ?_
      refine wi_ A (h1_ t0) (rg_ [(4, .int .i64 ((2 : Nat) : Int))] ?_)
      rintro a A ⟨t4, -⟩
      rw [e0, if_neg (fun hx => h4 ((ksOk_iff h lk).1 hx i lti))]
      refine wp_ret ?_
      repeat (first | with_reducible refine ret_in ?_ | with_reducible refine ret_then ?_)
      refine bodyPost_ret (results_tmp rfl _ _ _) A.2 ⟨?_, BB⟩
      show Ending.returned (a.eval (.tmp 4)) = _
      rw [t4]
  · rw [decide_eq_false lti] at t24
    refine wp_cond_false t24 ?_
    refine wp_exit ?_
    first | with_reducible refine exit_in ?_ | with_reducible refine exit_then (exit_in ?_) | with_reducible refine exit_then (exit_then (exit_in ?_)) | refine exit_in ?_ | refine exit_then (exit_in ?_) | refine exit_then (exit_then (exit_in ?_))
    clear t24 esi
    have ein : i = h := (by omega)
    rw [ein] at hs
    refine wp_seq ?_
    refine wi_ A (h2_ t0 t5) (rg_ [(4, .int .i64 ((0 : Nat) : Int))] ?_)
    rintro a A ⟨t4, -⟩
    rw [e0, if_pos ((ksOk_iff h lk).2 hs)]
    refine wp_ret ?_
    repeat (first | with_reducible refine ret_in ?_ | with_reducible refine ret_then ?_)
    refine bodyPost_ret (results_tmp rfl _ _ _) A.2 ⟨?_, BB⟩
    show Ending.returned (a.eval (.tmp 4)) = _
    rw [t4]
end Go.Proofs.YteekoabgbjbabaaGreatDoor.Rpl
