import Derived.Test.YtaiiomoajjhliaaDoorW8h
import Derived.Test.YtaiiomoajjhliaaDoorB7g
import Derived.Test.YtaiiomoajjhliaaDoorV9l
namespace Go.Proofs.YtaiiomoajjhliaaDoor.Rpl
open Go.RowKit Gf8 Aes By8 Cel Cf Tap Drw Dro Oni Rou
/- Stage 27: ReplyHops. Written by tools/mkW8i.py. -/

/-- A list of new rows. -/
structure An (B : Nat) (W : World) (v : Value) (n : Nat) (y : Nat → Value) (ln : Nat → Nat) (f : Nat → Nat → Nat) : Prop where
  own : W.ownsRow B 24 1 v n (lL y n)
  fam : Fam B n y ln f W
  byt : ∀ t, t < n → ∀ j, j < ln t → f t j < 256
theorem An.ls {B n : Nat} {W : World} {v : Value} {y : Nat → Value} {ln : Nat → Nat} {f : Nat → Nat → Nat} (h : An B W v n y ln f) (hl : ∀ t, t < n → ln t ≤ 140737488351232) : Ls W v n y ln f := by
  refine ⟨?_, fun i hi => own_slice (h.fam.rows i hi) (h.byt i hi), fun i hi => own_nilI (h.fam.rows i hi), hl⟩
  rcases h.own.2 with ⟨rfl, e⟩ | ⟨g, cap, cur, rfl, h1, h2, h3, h4, h5, h6⟩
  · refine ⟨none, 0, ?_, ?_, by omega, fun q => ?_⟩
    · cases n with
      | zero => rfl
      | succ n => simp at e
    · cases n with
      | zero => exact Nat.le_refl _
      | succ n => simp at e
    · cases n with
      | zero => omega
      | succ n => simp at e
  · have hc := h.own.cells (g := g) rfl
    refine ⟨_, cap, rfl, h3, by unfold maxLen at h4; omega, fun _ => ⟨g, 0, rfl, (Array.getElem?_eq_some_iff.1 h2).1, fun i hi => ?_⟩⟩
    have := hc i (y i) (lL_get y n i hi)
    rw [Go.WideShapes.add_plain] at this
    exact this
theorem An.on {B n : Nat} {W W' : World} {v : Value} {y : Nat → Value} {ln : Nat → Nat} {f : Nat → Nat → Nat} (h : An B W v n y ln f) (hb : Below W.heap.size W W') : An B W' v n y ln f := ⟨ownD_below h.own hb, h.fam.on hb, h.byt⟩
theorem one_ofR {v : Value} {n : Nat} (h : ∃ a c, v = .slice a n c) : ∀ u ∈ (#[v] : Array Value).toList, u.oneCell' = true := by
  obtain ⟨a, c, rfl⟩ := h
  intro u hu
  simp at hu
  subst hu
  rfl
def cutLs : Value → Nat → Nat → Value
  | .slice a _ cap, l, h => sliced a l h cap 1
  | v, _, _ => v
section
variable {W : World} {v : Value} {n : Nat} {xv : Nat → Value} {ln : Nat → Nat} {c : Nat → Nat → Nat} {o : Oper} {a : Act} {x y z : Operand}
theorem ls_cut (hv : Ls W v n xv ln c) (l h : Nat) (h1 : l ≤ h) (h2 : h ≤ n) : Ls W (cutLs v l h) (h - l) (fun i => xv (l + i)) (fun i => ln (l + i)) (fun i => c (l + i)) := by
  obtain ⟨a, cap, rfl, e1, e2, e3⟩ := hv.shape
  refine ⟨⟨_, cap - l, rfl, by omega, by omega, fun h0 => ?_⟩, fun i hi => hv.cell (l + i) (by omega), fun i hi => hv.nil (l + i) (by omega), fun i hi => hv.lens (l + i) (by omega)⟩
  obtain ⟨b, off, rfl, hb, hc⟩ := e3 (by omega)
  rw [if_neg (by omega)]
  refine ⟨b, off + l, ?_, hb, fun j hj => ?_⟩
  · simp [Addr.add]
  · rw [Nat.add_assoc]; exact hc (l + j) (by omega)
theorem execCutLh {l : Nat} (hv : Ls W v n xv ln c) (ho : o.op = .slice 22 x (some y) none none) (hx : a.eval x = v) (hy : a.eval y = .int .i64 (l : Int)) (h1 : l ≤ n) : (execOp a.eval o).run Tryd.prog W = .ok (.value (cutLs v l n)) W := by
  obtain ⟨ad, cap, rfl, e1, e2, _⟩ := hv.shape
  obtain ⟨i, i1, _, i3, _⟩ := infoL8
  have e4 : (l : Int) ≤ n := by omega
  have hr : (Instr.sliceAt 22 (.slice ad n cap) (some (.int .i64 (l : Int))) none none).run Tryd.prog W = .ok (sliced ad l n cap 1) W := by
    simp [Instr.sliceAt, Instr.slice, run_underlying Tryd.underlying22, Instr.sliceBounds, run_sliceBound, sliced, h1, sizeOf, typeInfo, i1, i3]
  unfold execOp
  simp only [ho, hx, hy, Option.map_some, Option.map_none, Sem.run_bind, hr, Result.andThen_ok, Sem.run_pure, cutLs]
end
def cutNs : Value → Nat → Nat → Value
  | .slice a _ cap, l, h => sliced a l h cap 16
  | v, _, _ => v
theorem cutNs_is {W : World} {v : Value} {n : Nat} {q : Nat → Nat → Nat} (hv : Nons W v n q) {l : Nat} (h1 : l ≤ n) : Nons W (cutNs v l n) (n - l) (fun i => q (l + i)) := by
  obtain ⟨a, cap, rfl, e1, e2, e3⟩ := hv.shape
  refine ⟨⟨_, cap - l, rfl, by omega, by omega, fun h0 => ?_⟩, fun i hi => hv.by_ (l + i) (by omega)⟩
  obtain ⟨b, off, rfl, hb, hc⟩ := e3 (by omega)
  rw [if_neg (by omega)]
  refine ⟨b, off + l * 16, ?_, hb, fun i hi j hj => ?_⟩
  · simp [Addr.add]
  · have h2 := hc (l + i) (by omega) j hj
    rwa [show off + l * 16 + i * 16 + j = off + (l + i) * 16 + j by omega]
theorem execCutNs {o : Oper} {a : Act} {x y : Operand} {W : World} {v : Value} {n l : Nat} {q : Nat → Nat → Nat} (hv : Nons W v n q) (ho : o.op = .slice 23 x (some y) none none) (hx : a.eval x = v) (hy : a.eval y = .int .i64 (l : Int)) (h1 : l ≤ n) : (execOp a.eval o).run Tryd.prog W = .ok (.value (cutNs v l n)) W := by
  obtain ⟨ad, cap, rfl, e1, e2, _⟩ := hv.shape
  have e4 : (l : Int) ≤ n := by omega
  have hr : (Instr.sliceAt 23 (.slice ad n cap) (some (.int .i64 (l : Int))) none none).run Tryd.prog W = .ok (sliced ad l n cap 16) W := by
    simp [Instr.sliceAt, Instr.slice, run_underlying Tryd.underlying23, Instr.sliceBounds, run_sliceBound, sliced, h1]
  unfold execOp
  simp only [ho, hx, hy, Option.map_some, Option.map_none, Sem.run_bind, hr, Result.andThen_ok, Sem.run_pure, cutNs]
theorem keyB {G : World → Prop} (I : Impl G) (key nonce : Nat → Nat) (v : Value) (V : World) (hG : G V) (hn : By nonce) (hv : SliceN V v 32 key) :
    Calls Tryd.prog 12 #[v, .agg (bA 16 nonce)] V fun e w' => ∃ r, e = .returned (.tuple #[r, .int .i64 ((0 : Nat) : Int)]) ∧ w'.ownsRow V.heap.size 5 1 r 32 (bytesL 32 (bk key nonce)) ∧ Below V.heap.size V w' := by
  refine (I.key key nonce 32 v V hG hn hv (by omega)).mono ?_
  rintro e w' ⟨⟨r, he, hr⟩, hb⟩
  exact ⟨r, he, hr, hb⟩
theorem wrB (kv nv pv : Value) (h n : Nat) (y : Nat → Value) (key q : Nat → Nat → Nat) (p : Nat → Nat) (V : World) (hG : Glob V) (hc : Ls V kv h y (fun _ => 32) (bks key q)) (hq : Nons V nv h q) (hp : SliceZ V pv n p) (w1 : 1 ≤ h) (w2 : h ≤ 8) (w5 : n ≤ 48) :
    Calls Tryd.prog 13 #[kv, nv, pv] V fun e w' => ∃ r, e = .returned (.tuple #[r, .int .i64 ((0 : Nat) : Int)]) ∧ SliceN w' r 320 (rwF h (bks key q) q n p) ∧ Below V.heap.size V w' := by
  have e1 : rwE h h (fun _ => 32) n = 0 := rwE_is w1 w2 rfl (fun _ _ => rfl) w5
  refine (rwrap8_any kv nv pv h h n y (fun _ => 32) (bks key q) q p V hG ⟨hc.shape, hc.cell, hc.nil, hc.lens⟩ hq hp (by omega) (by omega) (by omega)).mono ?_
  rintro e w' ⟨r, he, hr, hb⟩
  rw [e1] at he
  rw [show rwN h h (fun _ => 32) n = 320 from if_pos e1] at hr
  exact ⟨r, he, own_slice hr fun j _ => rw_lt (fun i hi => hq.by_ i hi) w2 w5 hp.sl.bytes j, hb⟩
theorem restB {h n : Nat} {key q : Nat → Nat → Nat} {p : Nat → Nat} (h1 : 1 < h) : rwF (h - 1) (bks (fun i => key (1 + i)) (fun i => q (1 + i))) (fun i => q (1 + i)) n p = ceF h (bks key q) q n p (h - 1) := by
  obtain ⟨m, rfl⟩ : ∃ m, h = m + 1 := ⟨h - 1, by omega⟩
  have e := rw_rest (h := m) (key := bks key q) (nonce := q) (n := n) (p := p) (by omega)
  have ek : bks (fun i => key (1 + i)) (fun i => q (1 + i)) = fun i => bks key q (i + 1) := funext fun i => by show bk (key (1 + i)) (q (1 + i)) = bk (key (i + 1)) (q (i + 1)); rw [Nat.add_comm]
  have eq_ : (fun i => q (1 + i)) = fun i => q (i + 1) := funext fun i => by rw [Nat.add_comm]
  rw [Nat.add_sub_cancel, ek, eq_]
  exact e
theorem szB (left : Int) (V : World) : Calls Tryd.prog 15 #[.int .i64 left] V fun e w' => e = .returned (.int .i64 (sz left : Nat)) ∧ Below V.heap.size V w' := by
  refine (psize_any left V).mono ?_
  rintro e w' ⟨he, rfl⟩
  exact ⟨he, Below.refl _ _⟩
theorem cutB {h n : Nat} {key q : Nat → Nat → Nat} {p : Nat → Nat} {v : Value} (V : World) (hv : SliceZ V v 320 (ceF h (bks key q) q n p (h - 1))) (h1 : 1 < h) (w2 : h ≤ 8) (_ : n ≤ 48) :
    Calls Tryd.prog 14 #[v, .int .i64 ((sz ((h - 1 : Nat) : Int) : Nat) : Int)] V fun e w' => ∃ r, e = .returned (.tuple #[r, .int .i64 ((0 : Nat) : Int)]) ∧ SliceN w' r (loN n (h - 1)) (loF h (bks key q) q n p (h - 1)) ∧ Below V.heap.size V w' := by
  have hs := sz_le ((h - 1 : Nat) : Int)
  have hl : loN n (h - 1) = sz ((h - 1 : Nat) : Int) := loN_sz n (by omega) (by omega)
  have hc : ∀ j, ceF h (bks key q) q n p (h - 1) j = cellF 0 headO (loN n (h - 1)) (loF h (bks key q) q n p (h - 1)) j := fun j => by unfold ceF; rw [if_neg (by omega)]
  have e0 : cutE (ceF h (bks key q) q n p (h - 1)) 320 ((sz ((h - 1 : Nat) : Int) : Nat) : Int) = 0 := by
    obtain ⟨m, hm⟩ : ∃ m, h - 1 = m + 1 := ⟨h - 2, by omega⟩
    rw [hm, ce_cw (by omega)]
    exact cw_cut (by omega) _ (Int.le_refl _) (by have := sz_le ((m + 1 : Nat) : Int); omega)
  refine (cut_any _ 320 _ v V hv (by omega) (by omega) (by omega)).mono ?_
  rintro e w' ⟨r, he, hr, hb⟩
  rw [show cutN (ceF h (bks key q) q n p (h - 1)) 320 ((sz ((h - 1 : Nat) : Int) : Nat) : Int) = sz ((h - 1 : Nat) : Int) by unfold cutN; rw [if_pos e0]; rfl] at hr
  rw [e0] at he
  rw [hl]
  refine ⟨r, he, slice_cg (own_slice hr fun j hj => hv.sl.bytes j (by omega)) fun j hj => ?_, hb⟩
  rw [hc]
  unfold cellF
  rw [if_neg (by omega), if_pos (by omega), Nat.sub_zero]
theorem wrpB {G : World → Prop} (I : Impl G) {h n : Nat} {key q : Nat → Nat → Nat} {p : Nat → Nat} {v vi : Value} (V : World) (hG : G V) (hn : By (q 0)) (hv : SliceN V v 32 (key 0)) (hi : SliceN V vi (loN n (h - 1)) (loF h (bks key q) q n p (h - 1))) (w1 : 1 ≤ h) (w2 : h ≤ 8) (w5 : n ≤ 48) :
    Calls Tryd.prog 16 #[v, .agg (bA 16 (q 0)), .int .i64 ((h : Nat) : Int), vi] V fun e w' => ∃ r, e = .returned (.tuple #[r, .int .i64 ((0 : Nat) : Int)]) ∧ SliceN w' r (loN n h) (loF h (bks key q) q n p h) ∧ (∀ l c, r = .slice none l c → c = 0) ∧ Below V.heap.size V w' := by
  obtain ⟨m, hm⟩ : ∃ m, h = m + 1 := ⟨h - 1, by omega⟩
  have hr0 := loN_room (n := n) (m := m) w5 (by omega)
  have hl : loN n (m + 1) = sz ((m + 1 : Nat) : Int) := loN_sz n (by omega) (by omega)
  have hs : 82 ≤ sz ((m + 1 : Nat) : Int) := by rw [← hl]; show 82 ≤ 48 + 34 * (m + 1); omega
  have hs2 := sz_le ((m + 1 : Nat) : Int)
  rw [show h - 1 = m by omega] at hi
  have e0 : wrE 32 ((h : Nat) : Int) (loN n m) = 0 := by
    unfold wrE
    rw [hm, if_neg (by omega), if_neg (by omega)]
  refine (I.wrap (key 0) (q 0) _ 32 (loN n m) ((h : Nat) : Int) v vi V hG hn hv (by omega) hi (by omega)).mono ?_
  rintro e w' ⟨⟨r, he, hr⟩, hb⟩
  rw [e0] at he
  have eN : wrN 32 ((h : Nat) : Int) (loN n m) = loN n h := by unfold wrN; rw [if_pos e0, hm, hl]
  refine ⟨r, he, ?_, own_nilI hr, hb⟩
  have s := own_slice hr fun j hj => wrN_lt hn hi.bytes hj
  rw [eN] at s
  have eF : loF h (bks key q) q n p h = wrF (bk (key 0) (q 0)) (q 0) ((h : Nat) : Int).toNat (loN n m) (loF h (bks key q) q n p m) := by
    have e3 : loF h (bks key q) q n p (m + 1) = wrF (bks key q (h - (m + 1))) (q (h - (m + 1))) (m + 1) (loN n m) (loF h (bks key q) q n p m) := rfl
    rw [show h - (m + 1) = 0 by omega, ← hm] at e3
    exact e3
  rw [eF]
  exact s
theorem pdB {h n : Nat} {key q : Nat → Nat → Nat} {p : Nat → Nat} {v : Value} (V : World) (hv : SliceZ V v (loN n h) (loF h (bks key q) q n p h)) (w1 : 1 ≤ h) (w2 : h ≤ 8) :
    Calls Tryd.prog 17 #[v] V fun e w' => ∃ r, e = .returned (.tuple #[r, .int .i64 ((0 : Nat) : Int)]) ∧ SliceN w' r 320 (rwF h (bks key q) q n p) ∧ Below V.heap.size V w' := by
  have hl : loN n h ≤ 320 := by rw [loN_sz n w1 w2]; exact sz_le _
  refine (pad_any _ _ v V hv (by omega)).mono ?_
  rintro e w' ⟨r, he, hr, hb⟩
  rw [show Cel.okE 320 (loN n h) = 0 by unfold Cel.okE; rw [if_pos hl]] at he
  rw [show Cel.okN 320 (loN n h) = 320 by unfold Cel.okN; rw [if_pos hl]] at hr
  exact ⟨r, he, own_slice hr fun j _ => cellF_lt (fun j hj => by omega) hv.sl.bytes j, hb⟩
set_option maxRecDepth 100000 in
set_option maxHeartbeats 4000000 in
/-- ReplyHops. -/
theorem hops27 {G : World → Prop} (I : Impl G) (h hn n : Nat) (kv nv pv : Value) (xv : Nat → Value) (lk : Nat → Nat) (key q : Nat → Nat → Nat) (p : Nat → Nat) (V : World) (hg : ∀ W, Below V.heap.size V W → G W) (hgl : ∀ W, Below V.heap.size V W → Glob W) (hK : Ls V kv h xv lk key) (hN : Nons V nv hn q) (hP : SliceN V pv n p) (hh : h ≤ 140737488351232) (hhn : hn ≤ 140737488351232) (hPz : ∀ l c, pv = .slice none l c → c = 0) (hpn : n ≤ 140737488351232) :
    Calls Tryd.prog 4 #[.agg #[kv, nv, pv]] V fun e w' => e = .returned (.bool true) ∧ Below V.heap.size V w' := by
  go_enter Tryd.func4, Tryd.ntmps4
  by_cases e1 : rwE h hn lk n = 0
  · obtain ⟨w1, w2, w3, w4, w5⟩ := rwE_ok e1
    replace w3 := w3.symm
    subst w3
    have hr3 : rwN h h lk n = 320 := if_pos e1
    refine wo_ 151 [(0, .agg #[kv, nv, pv])] ?_
    rintro a A ⟨t0, -⟩
    have BW : Below V.heap.size V V := Below.refl _ _
    have BB := BW
    refine wp_seq ?_
    obtain ⟨g1, egg1⟩ : ∃ z_ : Nat, V.heap.size = z_ := ⟨_, rfl⟩
    refine wi_ A (h1_ t0) (rs_ 0 (fun a ee => ?_))
    refine stepV rfl rfl (execBxJob rfl (ee _)) ⟨.pointer (some ⟨g1, 0, none⟩), ⟨_, rfl, by subst egg1; rfl⟩, fun X0 hX => ?_⟩
    have bQ : Below V.heap.size V X0 := by subst hX egg1; exact (belNew V _)
    have Fg1 : (X0.heap[g1]? = some (.cells #[kv, nv, pv] 26)) := by subst hX egg1; exact heapNew V _
    replace BB := BB.trans (bQ.mono BB.size)
    clear bQ hX egg1 ee a
    refine rg_ [(1, .pointer (some ⟨g1, 0, none⟩))] ?_
    rintro a A ⟨t1, -⟩
    refine wp_seq ?_
    refine wp_seq ?_
    refine wi_ A (h1_ t1) (rc_ 0 (alive27 I X0 (fun W h => hg W ((BB).trans (h.mono (BB).size)))) (cb_ fun X1 bQ => ?_))
    replace Fg1 := (on9 Fg1 bQ)
    replace BB := BB.trans (bQ.mono BB.size)
    clear bQ
    refine rv_ 1 (.bool false) (fun a ee => execNot8 (b := true) rfl (ee _)) (rf_ [(22, .bool false)] (h1_ t1) ?_)
    rintro a A ⟨t22, -⟩ ⟨t1, -⟩
    refine wp_cond_false t22 ?_
    refine wp_skip ?_
    clear t22
    refine wp_seq ?_
    refine wp_seq ?_
    refine wi_ A (h1_ t1) (rv_ 0 (.agg #[kv, nv, pv]) (fun a ee => execLdJob rfl (ee _) Fg1) (rc_ 1 (fitB h h n kv nv pv xv lk key q p X1 (hK.on BB) (hN.on BB) (hP.on BB) hh 0 320 e1 hr3) (cb_ fun X3 bQ => ?_)))
    replace Fg1 := (on9 Fg1 bQ)
    replace BB := BB.trans (bQ.mono BB.size)
    clear bQ
    refine rv_ 2 (.bool false) (fun a ee => execDec (execNeE (p := 0) (q := 0) rfl (ee _) rfl) (decide_eq_false (by omega))) (rf_ [(25, .bool false)] (h1_ t1) ?_)
    rintro a A ⟨t25, -⟩ ⟨t1, -⟩
    refine wp_cond_false t25 ?_
    refine wp_skip ?_
    clear t25
    refine wp_seq ?_
    refine wi_ A (h1_ t1) (rv_ 0 (.pointer (some ⟨g1, 0, none⟩)) (fun a ee => execFldJb (k := 0) rfl (ee _) rfl) (rv_ 1 (kv) (fun a ee => execLdLL7 rfl (ee _) (at7 Fg1 rfl)) (rv_ 2 (.pointer (some ⟨g1, 1, none⟩)) (fun a ee => execFldJb (k := 1) rfl (ee _) rfl) (rv_ 3 (nv) (fun a ee => execLdLA7 rfl (ee _) (at7 Fg1 rfl)) (rv_ 4 (.pointer (some ⟨g1, 2, none⟩)) (fun a ee => execFldJb (k := 2) rfl (ee _) rfl) (rv_ 5 (pv) (fun a ee => execLdL7 rfl (ee _) (at7 Fg1 rfl)) (rc_ 6 (chB I h h kv nv xv lk key q n p pv X3 (hg X3 BB) (hK.on BB) (hN.on BB) hh hhn (hP.on BB) hPz hpn 0 320 e1 hr3) fun e X5 hh => ?_)))))))
    obtain ⟨v33, he, hk, _, hb⟩ := hh
    refine ⟨_, he, ?_⟩
    have bQ : Below X3.heap.size X3 X5 := hb
    have FC : (SliceN X5 v33 (320) (rwF h (bks key q) q n p)) := hk
    replace Fg1 := (on9 Fg1 bQ)
    replace BB := BB.trans (bQ.mono BB.size)
    clear bQ
    refine rf_ [(3, v33), (4, .int .i64 ((0 : Nat) : Int))] (h1_ t1) ?_
    rintro a A ⟨t3, t4, -⟩ ⟨t1, -⟩
    refine wp_seq ?_
    refine wi_ A (h3_ t1 t3 t4) (rf_ [(5, .slice none 0 0)] (h3_ t1 t3 t4) ?_)
    rintro a A ⟨t5, -⟩ ⟨t1, t3, t4, -⟩
    refine wp_seq ?_
    refine wp_seq ?_
    refine wi_ A (h4_ t1 t3 t4 t5) (rf_ [(6, .int .i64 ((0 : Nat) : Int))] (h4_ t1 t3 t4 t5) ?_)
    rintro a A ⟨t6, -⟩ ⟨t1, t3, t4, t5, -⟩
    have hV5 := BB.size
    have Gg1 := Fg1
    have GC := FC
    clear Fg1 FC
    have FB5 : (Below X5.heap.size X5 X5) := Below.refl _ _
    have FU : (X5.ownsRow X5.heap.size 24 1 (.slice none 0 0) (0) (lL (fun _ => undef) (0))) := World.ownsRow_nil _ _ _ _
    have FF : (Fam X5.heap.size (0) (fun _ => undef) (fun _ => 32) (bks key q) X5) := Fam.none _ _ _ _ _
    refine wp_block ?_
    refine wp_loop (fun a W => ∃ (i : Nat) (u : Value) (y : Nat → Value), i ≤ h ∧ (a.tmps.size = 151 ∧ a.defers = []) ∧ a.eval (.tmp 1) = .pointer (some ⟨g1, 0, none⟩) ∧ a.eval (.tmp 3) = v33 ∧ a.eval (.tmp 4) = .int .i64 ((0 : Nat) : Int) ∧ a.eval (.tmp 5) = u ∧ a.eval (.tmp 6) = .int .i64 ((i : Nat) : Int) ∧ Below V.heap.size V W ∧ (Below X5.heap.size X5 W) ∧ (W.ownsRow X5.heap.size 24 1 u (i) (lL y (i))) ∧ (Fam X5.heap.size (i) y (fun _ => 32) (bks key q) W)) (fun a _ => h - (intOf (a.eval (.tmp 6))).toNat) ⟨0, .slice none 0 0, fun _ => undef, Nat.zero_le _, A, t1, t3, t4, t5, t6, BB, FB5, FU, FF⟩ ?_
    clear A t1 t3 t4 t5 t6 BB FB5 FU FF a
    rintro a XL8 ⟨i, u, y, hi, A, t1, t3, t4, t5, t6, BB, FB5, FU, FF⟩
    have esi := t6
    refine wp_seq ?_
    refine wp_seq ?_
    refine wi_ A (h5_ t1 t3 t4 t5 t6) (rv_ 1 (.pointer (some ⟨g1, 0, none⟩)) (fun a ee => execFldJb (k := 0) rfl (ee _) rfl) (rv_ 2 (kv) (fun a ee => execLdLL7 rfl (ee _) (at7 (on9 Gg1 FB5) rfl)) (rv_ 3 (.int .i64 ((h : Nat) : Int)) (fun a ee => execLenLL rfl (ee _) (hK.on BB).shp) (rv_ 4 (.bool (decide (i < h))) (fun a ee => execLtW (p := i) (q := h) rfl (ee _) (ee _)) (rf_ [(40, .bool (decide (i < h)))] (h5_ t1 t3 t4 t5 t6) ?_)))))
    rintro a A ⟨t40, -⟩ ⟨t1, t3, t4, t5, t6, -⟩
    by_cases lti : i < h
    · rw [decide_eq_true lti] at t40
      refine wp_cond_true t40 ?_
      refine wp_skip ?_
      clear t40
      refine wp_seq ?_
      refine wp_block ?_
      have hVs := FB5.size
      have FB : Below XL8.heap.size XL8 XL8 := Below.refl _ _
      have FF0 := FF
      clear FF
      refine wp_seq ?_
      refine wj_ [0, 1, 2, 3, 4, 5, 6, 7, 8, 9, 10, 11, 12, 13, 14, 15] [10] [1, 3, 4, 6, 8, 9] [] A (h5_ t1 t3 t4 t5 t6) (fun X10_0 bD => ?_)
      refine dw_ 0 (.pointer (some ⟨g1, 0, none⟩)) (fun a X ee => execFldJb (k := 0) rfl (ee _) rfl) (dv_ 1 (kv) (fun a X ee hb => execLdLL7 rfl (ee _) (at7 (on9 Gg1 (FB5.trans (hb.mono FB5.size))) rfl)) (dv_ 3 (.pointer (some ⟨adB kv, adO kv + i, none⟩)) (fun a X ee hb => execIdxLs (k := i) (hK.on (BB.trans (hb.mono BB.size))) rfl (ee _) (ee _) lti) (dv_ 4 (xv i) (fun a X ee hb => execLdLs (k := i) (hK.on (BB.trans (hb.mono BB.size))) rfl (ee _) lti) (dw_ 5 (.pointer (some ⟨g1, 1, none⟩)) (fun a X ee => execFldJb (k := 1) rfl (ee _) rfl) (dv_ 6 (nv) (fun a X ee hb => execLdLA7 rfl (ee _) (at7 (on9 Gg1 (FB5.trans (hb.mono FB5.size))) rfl)) (dv_ 8 (.pointer (some ⟨adB nv, adO nv + i * 16, none⟩)) (fun a X ee hb => execIdxNs (k := i) (hN.on (BB.trans (hb.mono BB.size))) rfl (ee _) (ee _) lti) (dv_ 9 (.agg (bA 16 (q i))) (fun a X ee hb => execLdNs (k := i) (hN.on (BB.trans (hb.mono BB.size))) rfl (ee _) lti) (dc_ 10 (keyB I (key i) (q i) _ X10_0 (hg X10_0 (BB.trans (bD.mono BB.size))) (hN.by_ i lti) (w4 i lti ▸ (hK.cell i lti).on (BB.trans (bD.mono BB.size)))) fun e X10 hh => ?_))))))))
      obtain ⟨v54, he, hk, hb⟩ := hh
      refine ⟨_, he, ?_⟩
      have bQ : Below X10_0.heap.size X10_0 X10 := hb
      have FA : (X10.ownsRow XL8.heap.size 5 1 v54 (32) (bytesL (32) (bks key q i))) := own_base hk ((FB.trans (bD.mono FB.size))).size
      replace bD := bD.trans (bQ.mono bD.size)
      clear bQ
      refine ⟨Or.inr bD, ?_⟩
      refine dz_ [(7, v54), (8, .int .i64 ((0 : Nat) : Int))] (h5_ t1 t3 t4 t5 t6) ?_
      rintro a A ⟨t7, t8, -⟩ ⟨t1, t3, t4, t5, t6, -⟩
      replace FB5 := (FB5.trans (bD.mono FB5.size))
      replace FU := (ownD_below FU bD)
      replace FB := (FB.trans (bD.mono FB.size))
      replace BB := BB.trans (bD.mono BB.size)
      clear bD
      refine wp_seq ?_
      refine wp_seq ?_
      refine wi_ A (h7_ t1 t3 t4 t5 t6 t7 t8) (rv_ 1 (.bool false) (fun a ee => execDec (execNeE (p := 0) (q := 0) rfl (ee _) rfl) (decide_eq_false (by omega))) (rf_ [(58, .bool false)] (h6_ t1 t3 t4 t5 t6 t7) ?_))
      rintro a A ⟨t58, -⟩ ⟨t1, t3, t4, t5, t6, t7, -⟩
      refine wp_cond_false t58 ?_
      refine wp_skip ?_
      clear t58
      have FF1 : (Fam X5.heap.size (i + 1) (updX y i v54) (fun _ => 32) (bks key q) X10) := FF0.add FB hVs FA
      have hsl := ownQ_shape FA
      clear FA FB
      obtain ⟨g61, egg61⟩ : ∃ z_ : Nat, X10.heap.size = z_ := ⟨_, rfl⟩
      refine wi_ A (h6_ t1 t3 t4 t5 t6 t7) (rs_ 2 (fun a ee => ?_))
      refine stepV rfl rfl (execBsL rfl (ee _) (by obtain ⟨q1, q2, q3⟩ := hsl; exact ⟨q1, _, q2, q3⟩)) ⟨.slice (some ⟨g61, 0, none⟩) 1 1, ⟨_, rfl, by subst egg61; rfl⟩, fun X13_1 hX => ?_⟩
      have bQ : Below X10.heap.size X10 X13_1 := by subst hX egg61; exact (belNew X10 _)
      have Fg61 : (X13_1.heap[g61]? = some (.cells #[v54] 24)) := by subst hX egg61; exact heapNew X10 _
      replace FB5 := (FB5.trans (bQ.mono FB5.size))
      replace FU := (ownD_below FU bQ)
      replace FF1 := (FF1.on bQ)
      replace BB := BB.trans (bQ.mono BB.size)
      clear bQ hX egg61 ee a
      refine rs_ 3 (fun a ee => ?_)
      refine Cf.stepAppLs rfl rfl rfl (ee _) (ee _) FU Fg61 rfl (one_ofR hsl) (by omega) (FB5).size fun v62 X13 own' gr => ⟨_, ⟨_, rfl, rfl⟩, eqw ?_⟩
      obtain ⟨BB, FB5, FF1, FU1⟩ : Below V.heap.size V X13 ∧ (Below X5.heap.size X5 X13) ∧ (Fam X5.heap.size (i + 1) (updX y i v54) (fun _ => 32) (bks key q) X13) ∧ (X13.ownsRow X5.heap.size 24 1 v62 (i + 1) (lL (updX y i v54) (i + 1))) := ⟨(BB).grown gr (BB).size (fun k hk => Nat.le_trans hV5 (FU.lt k hk).1), (FB5.grown gr (FB5).size (fun k hk => (FU.lt k hk).1)), (FF1.grown FU gr), (Cf.lL_upd y i _ ▸ own')⟩
      clear FU Fg61 ee a
      refine rf_ [(5, v62)] (h4_ t1 t3 t4 t6) ?_
      rintro a A ⟨t5, -⟩ ⟨t1, t3, t4, t6, -⟩
      refine wi_ A (h5_ t1 t3 t4 t5 t6) (rv_ 1 (.int .i64 ((i + 1 : Nat) : Int)) (fun a ee => execAd8 (p := i) (q := 1) rfl (ee _) rfl (by omega)) (rf_ [(6, .int .i64 ((i + 1 : Nat) : Int))] (h4_ t1 t3 t4 t5) ?_))
      rintro a A ⟨t6, -⟩ ⟨t1, t3, t4, t5, -⟩
      exact ⟨⟨i + 1, v62, updX y i v54, lti, A, t1, t3, t4, t5, t6, BB, FB5, FU1, FF1⟩, by show h - (intOf (a.eval (.tmp 6))).toNat < h - (intOf (Act.eval _ (.tmp 6))).toNat; rw [t6, esi]; show h - (i + 1) < h - i; omega⟩
    · rw [decide_eq_false lti] at t40
      refine wp_cond_false t40 ?_
      refine wp_exit ?_
      first | with_reducible refine exit_in ?_ | with_reducible refine exit_then (exit_in ?_) | with_reducible refine exit_then (exit_then (exit_in ?_)) | refine exit_in ?_ | refine exit_then (exit_in ?_) | refine exit_then (exit_then (exit_in ?_))
      clear t40 esi
      have ein : i = h := (by omega)
      rw [ein] at FU FF
      have FN : (An X5.heap.size XL8 u h y (fun _ => 32) (bks key q)) := ⟨FU, FF, fun t _ j _ => bk_lt _ _ j⟩
      clear FU FF
      refine wp_seq ?_
      refine wi_ A (h5_ t1 t3 t4 t5 t6) (rv_ 1 (.pointer (some ⟨g1, 1, none⟩)) (fun a ee => execFldJb (k := 1) rfl (ee _) rfl) (rv_ 2 (nv) (fun a ee => execLdLA7 rfl (ee _) (at7 (on9 Gg1 FB5) rfl)) (rv_ 3 (.pointer (some ⟨g1, 2, none⟩)) (fun a ee => execFldJb (k := 2) rfl (ee _) rfl) (rv_ 4 (pv) (fun a ee => execLdL7 rfl (ee _) (at7 (on9 Gg1 FB5) rfl)) (rc_ 5 (wrB _ _ _ h n y key q p XL8 (hgl XL8 BB) (FN.ls (fun _ _ => by omega)) (hN.on BB) ⟨hP.on BB, hPz⟩ w1 w2 w5) fun e X14 hh => ?_)))))
      obtain ⟨v69, he, hk, hb⟩ := hh
      refine ⟨_, he, ?_⟩
      have bQ : Below XL8.heap.size XL8 X14 := hb
      have FW : (SliceN X14 v69 (320) (rwF h (bks key q) q n p)) := hk
      replace FB5 := (FB5.trans (bQ.mono FB5.size))
      replace BB := BB.trans (bQ.mono BB.size)
      clear FN bQ
      refine rf_ [(9, v69), (10, .int .i64 ((0 : Nat) : Int))] (h3_ t1 t3 t4) ?_
      rintro a A ⟨t9, t10, -⟩ ⟨t1, t3, t4, -⟩
      refine wp_seq ?_
      refine wp_seq ?_
      refine wi_ A (h5_ t1 t3 t4 t9 t10) (rv_ 1 (.bool false) (fun a ee => execDec (execNeE (p := 0) (q := 0) rfl (ee _) rfl) (decide_eq_false (by omega))) (rv_ 4 (.bool false) (fun a ee => execDec (execNeE (p := 0) (q := 0) rfl (ee _) rfl) (decide_eq_false (by omega))) (rv_ 8 (.string (strN (rwF h (bks key q) q n p) 320)) (fun a ee => execStr rfl (ee _) (FW)) (rv_ 10 (.string (strN (rwF h (bks key q) q n p) 320)) (fun a ee => execStr rfl (ee _) ((GC.on FB5))) (rv_ 11 (.bool false) (fun a ee => By8.execNeqS rfl (ee _) (ee _)) (rf_ [(84, .bool false)] (h2_ t1 t3) ?_))))))
      rintro a A ⟨t84, -⟩ ⟨t1, t3, -⟩
      refine wp_cond_false t84 ?_
      refine wp_skip ?_
      clear t84
      clear FW
      refine wp_seq ?_
      refine wi_ A (h2_ t1 t3) (rv_ 0 (.pointer (some ⟨g1, 0, none⟩)) (fun a ee => execFldJb (k := 0) rfl (ee _) rfl) (rv_ 1 (kv) (fun a ee => execLdLL7 rfl (ee _) (at7 (on9 Gg1 FB5) rfl)) (rv_ 2 (.int .i64 ((h : Nat) : Int)) (fun a ee => execLenLL rfl (ee _) (hK.on BB).shp) (rf_ [(11, .int .i64 ((h : Nat) : Int))] (h2_ t1 t3) ?_))))
      rintro a A ⟨t11, -⟩ ⟨t1, t3, -⟩
      refine wp_seq ?_
      refine wi_ A (h3_ t1 t3 t11) (rv_ 0 (.pointer (some ⟨g1, 2, none⟩)) (fun a ee => execFldJb (k := 2) rfl (ee _) rfl) (rv_ 1 (pv) (fun a ee => execLdL7 rfl (ee _) (at7 (on9 Gg1 FB5) rfl)) (rf_ [(12, pv)] (h3_ t1 t3 t11) ?_)))
      rintro a A ⟨t12, -⟩ ⟨t1, t3, t11, -⟩
      refine wp_seq ?_
      refine wp_seq ?_
      by_cases hh1 : 1 < h
      · refine wi_ A (h4_ t1 t3 t11 t12) (rv_ 1 (.bool true) (fun a ee => execDec (execGtN (p := h) (q := 1) rfl (ee _) rfl) (decide_eq_true (by omega))) (rf_ [(91, .bool true)] (h3_ t1 t3 t11) ?_))
        rintro a A ⟨t91, -⟩ ⟨t1, t3, t11, -⟩
        refine wp_cond_true t91 ?_
        clear t91
        have e2 : rwE (h - 1) (h - 1) (fun i => lk (1 + i)) n = 0 := rwE_is (by omega) (by omega) rfl (fun i hi => w4 (1 + i) (by omega)) w5
        have hr2 : rwN (h - 1) (h - 1) (fun i => lk (1 + i)) n = 320 := if_pos e2
        refine wp_seq ?_
        refine wj_ [0, 1, 2, 3, 4, 5, 6, 7, 8, 9, 10, 11, 12, 13] [8] [1, 2, 4, 5, 7] [] A (h3_ t1 t3 t11) (fun X20_0 bD => ?_)
        refine dw_ 0 (.pointer (some ⟨g1, 0, none⟩)) (fun a X ee => execFldJb (k := 0) rfl (ee _) rfl) (dv_ 1 (kv) (fun a X ee hb => execLdLL7 rfl (ee _) (at7 (on9 Gg1 (FB5.trans (hb.mono FB5.size))) rfl)) (dv_ 2 (cutLs kv 1 h) (fun a X ee hb => execCutLh (l := 1) (hK.on (BB.trans (hb.mono BB.size))) rfl (ee _) rfl (by omega)) (dw_ 3 (.pointer (some ⟨g1, 1, none⟩)) (fun a X ee => execFldJb (k := 1) rfl (ee _) rfl) (dv_ 4 (nv) (fun a X ee hb => execLdLA7 rfl (ee _) (at7 (on9 Gg1 (FB5.trans (hb.mono FB5.size))) rfl)) (dv_ 5 (cutNs nv 1 h) (fun a X ee hb => execCutNs (l := 1) (hN.on (BB.trans (hb.mono BB.size))) rfl (ee _) rfl (by omega)) (dw_ 6 (.pointer (some ⟨g1, 2, none⟩)) (fun a X ee => execFldJb (k := 2) rfl (ee _) rfl) (dv_ 7 (pv) (fun a X ee hb => execLdL7 rfl (ee _) (at7 (on9 Gg1 (FB5.trans (hb.mono FB5.size))) rfl)) (dc_ 8 (chB I (h - 1) (h - 1) _ _ (fun i => xv (1 + i)) (fun i => lk (1 + i)) (fun i => key (1 + i)) (fun i => q (1 + i)) n p pv X20_0 (hg X20_0 (BB.trans (bD.mono BB.size))) (ls_cut (hK.on (BB.trans (bD.mono BB.size))) 1 h (by omega) (by omega)) (cutNs_is (hN.on (BB.trans (bD.mono BB.size))) (by omega)) (by omega) (by omega) (hP.on (BB.trans (bD.mono BB.size))) hPz hpn 0 320 e2 hr2) fun e X20 hh => ?_))))))))
        obtain ⟨v101, he, hk, hz_, hb⟩ := hh
        refine ⟨_, he, ?_⟩
        have bQ : Below X20_0.heap.size X20_0 X20 := hb
        have FR : (SliceN X20 v101 (320) (ceF h (bks key q) q n p (h - 1))) := (restB hh1 ▸ hk)
        have FRz : (∀ l c, v101 = .slice none l c → c = 0) := hz_
        replace bD := bD.trans (bQ.mono bD.size)
        clear bQ
        refine ⟨Or.inr bD, ?_⟩
        refine dz_ [(13, v101), (14, .int .i64 ((0 : Nat) : Int))] (h3_ t1 t3 t11) ?_
        rintro a A ⟨t13, t14, -⟩ ⟨t1, t3, t11, -⟩
        replace FB5 := (FB5.trans (bD.mono FB5.size))
        replace BB := BB.trans (bD.mono BB.size)
        clear bD
        refine wp_seq ?_
        refine wi_ A (h5_ t1 t3 t11 t13 t14) (rv_ 2 (.int .i64 ((h - 1 : Nat) : Int)) (fun a ee => execSubJ (p := h) (q := 1) (r := h - 1) rfl (ee _) rfl (by omega) (by omega)) (rc_ 3 (szB _ X20) (cb_ fun X21_1 bQ => ?_)))
        replace FB5 := (FB5.trans (bQ.mono FB5.size))
        replace FR := (FR.on bQ)
        replace BB := BB.trans (bQ.mono BB.size)
        clear bQ
        refine rc_ 4 (cutB X21_1 ⟨FR, FRz⟩ hh1 w2 w5) fun e X21 hh => ?_
        obtain ⟨v109, he, hk, hb⟩ := hh
        refine ⟨_, he, ?_⟩
        have bQ : Below X21_1.heap.size X21_1 X21 := hb
        have FI : (SliceN X21 v109 (loN n (h - 1)) (loF h (bks key q) q n p (h - 1))) := hk
        replace FB5 := (FB5.trans (bQ.mono FB5.size))
        replace BB := BB.trans (bQ.mono BB.size)
        clear FR bQ
        refine rf_ [(15, v109), (16, .int .i64 ((0 : Nat) : Int))] (h4_ t1 t3 t11 t14) ?_
        rintro a A ⟨t15, t16, -⟩ ⟨t1, t3, t11, t14, -⟩
        refine wp_seq ?_
        refine wp_seq ?_
        refine wi_ A (h6_ t1 t3 t11 t14 t15 t16) (rv_ 1 (.bool false) (fun a ee => execDec (execNeE (p := 0) (q := 0) rfl (ee _) rfl) (decide_eq_false (by omega))) (rv_ 4 (.bool false) (fun a ee => execDec (execNeE (p := 0) (q := 0) rfl (ee _) rfl) (decide_eq_false (by omega))) (rf_ [(117, .bool false)] (h4_ t1 t3 t11 t15) ?_)))
        rintro a A ⟨t117, -⟩ ⟨t1, t3, t11, t15, -⟩
        refine wp_cond_false t117 ?_
        refine wp_skip ?_
        clear t117
        refine wi_ A (h4_ t1 t3 t11 t15) (rf_ [(12, v109)] (h3_ t1 t3 t11) ?_)
        rintro a A ⟨t12, -⟩ ⟨t1, t3, t11, -⟩
        refine wp_seq ?_
        refine wj_ [0, 1, 2, 3, 4, 5, 6, 7, 8, 9, 10, 11, 12, 13, 14, 15] [10] [1, 2, 3, 5, 6, 7] [] A (h4_ t1 t3 t11 t12) (fun X25_0 bD => ?_)
        refine dw_ 0 (.pointer (some ⟨g1, 0, none⟩)) (fun a X ee => execFldJb (k := 0) rfl (ee _) rfl) (dv_ 1 (kv) (fun a X ee hb => execLdLL7 rfl (ee _) (at7 (on9 Gg1 (FB5.trans (hb.mono FB5.size))) rfl)) (dv_ 2 (.pointer (some ⟨adB kv, adO kv + 0, none⟩)) (fun a X ee hb => execIdxLs (k := 0) (hK.on (BB.trans (hb.mono BB.size))) rfl (ee _) rfl (by omega)) (dv_ 3 (xv 0) (fun a X ee hb => execLdLs (k := 0) (hK.on (BB.trans (hb.mono BB.size))) rfl (ee _) (by omega)) (dw_ 4 (.pointer (some ⟨g1, 1, none⟩)) (fun a X ee => execFldJb (k := 1) rfl (ee _) rfl) (dv_ 5 (nv) (fun a X ee hb => execLdLA7 rfl (ee _) (at7 (on9 Gg1 (FB5.trans (hb.mono FB5.size))) rfl)) (dv_ 6 (.pointer (some ⟨adB nv, adO nv + 0 * 16, none⟩)) (fun a X ee hb => execIdxNs (k := 0) (hN.on (BB.trans (hb.mono BB.size))) rfl (ee _) rfl (by omega)) (dv_ 7 (.agg (bA 16 (q 0))) (fun a X ee hb => execLdNs (k := 0) (hN.on (BB.trans (hb.mono BB.size))) rfl (ee _) (by omega)) (dc_ 10 (wrpB I X25_0 (hg X25_0 (BB.trans (bD.mono BB.size))) (hN.by_ 0 (by omega)) (w4 0 (by omega) ▸ (hK.cell 0 (by omega)).on (BB.trans (bD.mono BB.size))) (FI.on bD) w1 w2 w5) fun e X25 hh => ?_))))))))
        obtain ⟨v130, he, hk, hz_, hb⟩ := hh
        refine ⟨_, he, ?_⟩
        have bQ : Below X25_0.heap.size X25_0 X25 := hb
        have FT : (SliceN X25 v130 (loN n h) (loF h (bks key q) q n p (h))) := hk
        have FTz : (∀ l c, v130 = .slice none l c → c = 0) := hz_
        replace bD := bD.trans (bQ.mono bD.size)
        clear bQ
        refine ⟨Or.inr bD, ?_⟩
        refine dz_ [(17, v130), (18, .int .i64 ((0 : Nat) : Int))] (h1_ t3) ?_
        rintro a A ⟨t17, t18, -⟩ ⟨t3, -⟩
        replace FB5 := (FB5.trans (bD.mono FB5.size))
        replace FI := (FI.on bD)
        replace BB := BB.trans (bD.mono BB.size)
        clear bD
        refine wp_seq ?_
        refine wi_ A (h3_ t3 t17 t18) (rc_ 1 (pdB X25 ⟨FT, FTz⟩ w1 w2) fun e X26 hh => ?_)
        obtain ⟨v135, he, hk, hb⟩ := hh
        refine ⟨_, he, ?_⟩
        have bQ : Below X25.heap.size X25 X26 := hb
        have FD : (SliceN X26 v135 (320) (rwF h (bks key q) q n p)) := hk
        replace FB5 := (FB5.trans (bQ.mono FB5.size))
        replace FI := (FI.on bQ)
        replace BB := BB.trans (bQ.mono BB.size)
        clear FT bQ
        refine rf_ [(19, v135), (20, .int .i64 ((0 : Nat) : Int))] (h2_ t3 t18) ?_
        rintro a A ⟨t19, t20, -⟩ ⟨t3, t18, -⟩
        refine wp_seq ?_
        refine wi_ A (h4_ t3 t18 t19 t20) (rv_ 1 (.bool true) (fun a ee => execDec (execEqE (p := 0) (q := 0) rfl (ee _) rfl) (decide_eq_true (by rfl))) (rv_ 4 (.bool true) (fun a ee => execDec (execEqE (p := 0) (q := 0) rfl (ee _) rfl) (decide_eq_true (by rfl))) (rv_ 8 (.string (strN (rwF h (bks key q) q n p) 320)) (fun a ee => execStr rfl (ee _) (FD)) (rv_ 10 (.string (strN (rwF h (bks key q) q n p) 320)) (fun a ee => execStr rfl (ee _) ((GC.on FB5))) (rv_ 11 (.bool true) (fun a ee => By8.execEqlS rfl (ee _) (ee _)) (rg_ [(2, .bool true)] ?_))))))
        rintro a A ⟨t2, -⟩
        refine wp_ret ?_
        repeat (first | with_reducible refine ret_in ?_ | with_reducible refine ret_then ?_)
        refine bodyPost_ret (results_tmp rfl _ _ _) A.2 ⟨?_, BB⟩
        show Ending.returned (a.eval (.tmp 2)) = _
        rw [t2]
      · refine wi_ A (h4_ t1 t3 t11 t12) (rv_ 1 (.bool false) (fun a ee => execDec (execGtN (p := h) (q := 1) rfl (ee _) rfl) (decide_eq_false (by omega))) (rf_ [(91, .bool false)] (h4_ t1 t3 t11 t12) ?_))
        rintro a A ⟨t91, -⟩ ⟨t1, t3, t11, t12, -⟩
        refine wp_cond_false t91 ?_
        refine wp_skip ?_
        clear t91
        have hP1 : SliceN V pv (loN n (h - 1)) (loF h (bks key q) q n p (h - 1)) := by rw [show h - 1 = 0 by omega]; exact hP
        refine wp_seq ?_
        refine wj_ [0, 1, 2, 3, 4, 5, 6, 7, 8, 9, 10, 11, 12, 13, 14, 15] [10] [1, 2, 3, 5, 6, 7] [] A (h4_ t1 t3 t11 t12) (fun X25_0 bD => ?_)
        refine dw_ 0 (.pointer (some ⟨g1, 0, none⟩)) (fun a X ee => execFldJb (k := 0) rfl (ee _) rfl) (dv_ 1 (kv) (fun a X ee hb => execLdLL7 rfl (ee _) (at7 (on9 Gg1 (FB5.trans (hb.mono FB5.size))) rfl)) (dv_ 2 (.pointer (some ⟨adB kv, adO kv + 0, none⟩)) (fun a X ee hb => execIdxLs (k := 0) (hK.on (BB.trans (hb.mono BB.size))) rfl (ee _) rfl (by omega)) (dv_ 3 (xv 0) (fun a X ee hb => execLdLs (k := 0) (hK.on (BB.trans (hb.mono BB.size))) rfl (ee _) (by omega)) (dw_ 4 (.pointer (some ⟨g1, 1, none⟩)) (fun a X ee => execFldJb (k := 1) rfl (ee _) rfl) (dv_ 5 (nv) (fun a X ee hb => execLdLA7 rfl (ee _) (at7 (on9 Gg1 (FB5.trans (hb.mono FB5.size))) rfl)) (dv_ 6 (.pointer (some ⟨adB nv, adO nv + 0 * 16, none⟩)) (fun a X ee hb => execIdxNs (k := 0) (hN.on (BB.trans (hb.mono BB.size))) rfl (ee _) rfl (by omega)) (dv_ 7 (.agg (bA 16 (q 0))) (fun a X ee hb => execLdNs (k := 0) (hN.on (BB.trans (hb.mono BB.size))) rfl (ee _) (by omega)) (dc_ 10 (wrpB I X25_0 (hg X25_0 (BB.trans (bD.mono BB.size))) (hN.by_ 0 (by omega)) (w4 0 (by omega) ▸ (hK.cell 0 (by omega)).on (BB.trans (bD.mono BB.size))) (hP1.on (BB.trans (bD.mono BB.size))) w1 w2 w5) fun e X25 hh => ?_))))))))
        obtain ⟨v130, he, hk, hz_, hb⟩ := hh
        refine ⟨_, he, ?_⟩
        have bQ : Below X25_0.heap.size X25_0 X25 := hb
        have FT : (SliceN X25 v130 (loN n h) (loF h (bks key q) q n p (h))) := hk
        have FTz : (∀ l c, v130 = .slice none l c → c = 0) := hz_
        replace bD := bD.trans (bQ.mono bD.size)
        clear bQ
        refine ⟨Or.inr bD, ?_⟩
        refine dz_ [(17, v130), (18, .int .i64 ((0 : Nat) : Int))] (h1_ t3) ?_
        rintro a A ⟨t17, t18, -⟩ ⟨t3, -⟩
        replace FB5 := (FB5.trans (bD.mono FB5.size))
        replace BB := BB.trans (bD.mono BB.size)
        clear bD
        refine wp_seq ?_
        refine wi_ A (h3_ t3 t17 t18) (rc_ 1 (pdB X25 ⟨FT, FTz⟩ w1 w2) fun e X26 hh => ?_)
        obtain ⟨v135, he, hk, hb⟩ := hh
        refine ⟨_, he, ?_⟩
        have bQ : Below X25.heap.size X25 X26 := hb
        have FD : (SliceN X26 v135 (320) (rwF h (bks key q) q n p)) := hk
        replace FB5 := (FB5.trans (bQ.mono FB5.size))
        replace BB := BB.trans (bQ.mono BB.size)
        clear FT bQ
        refine rf_ [(19, v135), (20, .int .i64 ((0 : Nat) : Int))] (h2_ t3 t18) ?_
        rintro a A ⟨t19, t20, -⟩ ⟨t3, t18, -⟩
        refine wp_seq ?_
        refine wi_ A (h4_ t3 t18 t19 t20) (rv_ 1 (.bool true) (fun a ee => execDec (execEqE (p := 0) (q := 0) rfl (ee _) rfl) (decide_eq_true (by rfl))) (rv_ 4 (.bool true) (fun a ee => execDec (execEqE (p := 0) (q := 0) rfl (ee _) rfl) (decide_eq_true (by rfl))) (rv_ 8 (.string (strN (rwF h (bks key q) q n p) 320)) (fun a ee => execStr rfl (ee _) (FD)) (rv_ 10 (.string (strN (rwF h (bks key q) q n p) 320)) (fun a ee => execStr rfl (ee _) ((GC.on FB5))) (rv_ 11 (.bool true) (fun a ee => By8.execEqlS rfl (ee _) (ee _)) (rg_ [(2, .bool true)] ?_))))))
        rintro a A ⟨t2, -⟩
        refine wp_ret ?_
        repeat (first | with_reducible refine ret_in ?_ | with_reducible refine ret_then ?_)
        refine bodyPost_ret (results_tmp rfl _ _ _) A.2 ⟨?_, BB⟩
        show Ending.returned (a.eval (.tmp 2)) = _
        rw [t2]
  · obtain ⟨ex_, hee⟩ : ∃ ex_, rwE h hn lk n = ex_ := ⟨_, rfl⟩
    have hn0 : rwN h hn lk n = 0 := if_neg e1
    rw [hee] at e1
    refine wo_ 151 [(0, .agg #[kv, nv, pv])] ?_
    rintro a A ⟨t0, -⟩
    have BW : Below V.heap.size V V := Below.refl _ _
    have BB := BW
    refine wp_seq ?_
    obtain ⟨g1, egg1⟩ : ∃ z_ : Nat, V.heap.size = z_ := ⟨_, rfl⟩
    refine wi_ A (h1_ t0) (rs_ 0 (fun a ee => ?_))
    refine stepV rfl rfl (execBxJob rfl (ee _)) ⟨.pointer (some ⟨g1, 0, none⟩), ⟨_, rfl, by subst egg1; rfl⟩, fun X0 hX => ?_⟩
    have bQ : Below V.heap.size V X0 := by subst hX egg1; exact (belNew V _)
    have Fg1 : (X0.heap[g1]? = some (.cells #[kv, nv, pv] 26)) := by subst hX egg1; exact heapNew V _
    replace BB := BB.trans (bQ.mono BB.size)
    clear bQ hX egg1 ee a
    refine rg_ [(1, .pointer (some ⟨g1, 0, none⟩))] ?_
    rintro a A ⟨t1, -⟩
    refine wp_seq ?_
    refine wp_seq ?_
    refine wi_ A (h1_ t1) (rc_ 0 (alive27 I X0 (fun W h => hg W ((BB).trans (h.mono (BB).size)))) (cb_ fun X1 bQ => ?_))
    replace Fg1 := (on9 Fg1 bQ)
    replace BB := BB.trans (bQ.mono BB.size)
    clear bQ
    refine rv_ 1 (.bool false) (fun a ee => execNot8 (b := true) rfl (ee _)) (rf_ [(22, .bool false)] (h1_ t1) ?_)
    rintro a A ⟨t22, -⟩ ⟨t1, -⟩
    refine wp_cond_false t22 ?_
    refine wp_skip ?_
    clear t22
    refine wp_seq ?_
    refine wp_seq ?_
    refine wi_ A (h1_ t1) (rv_ 0 (.agg #[kv, nv, pv]) (fun a ee => execLdJob rfl (ee _) Fg1) (rc_ 1 (fitB h hn n kv nv pv xv lk key q p X1 (hK.on BB) (hN.on BB) (hP.on BB) hh ex_ 0 hee hn0) (cb_ fun X3 bQ => ?_)))
    replace Fg1 := (on9 Fg1 bQ)
    replace BB := BB.trans (bQ.mono BB.size)
    clear bQ
    refine rv_ 2 (.bool true) (fun a ee => execDec (execNeE (p := ex_) (q := 0) rfl (ee _) rfl) (decide_eq_true (by omega))) (rf_ [(25, .bool true)] (h1_ t1) ?_)
    rintro a A ⟨t25, -⟩ ⟨t1, -⟩
    refine wp_cond_true t25 ?_
    clear t25
    refine wp_seq ?_
    refine wi_ A (h1_ t1) (rg_ [(2, .bool true)] ?_)
    rintro a A ⟨t2, -⟩
    refine wp_ret ?_
    repeat (first | with_reducible refine ret_in ?_ | with_reducible refine ret_then ?_)
    refine bodyPost_ret (results_tmp rfl _ _ _) A.2 ⟨?_, BB⟩
    show Ending.returned (a.eval (.tmp 2)) = _
    rw [t2]
end Go.Proofs.YtaiiomoajjhliaaDoor.Rpl
