import Derived.Test.YtcibogmghagpoaaV8r
namespace Go.Proofs.Ytcibogmghagpoaa.Dro
open Go.RowKit Gf8 Aes By8 Cel Cf Tap Drw
/- Stage 28: DropTells. Written by tools/mkV8s.py. -/

theorem hc_ {a : Act} {d : Nat} {v : Value} {l : List (Nat × Value)} (t : a.eval (.tmp d) = v) (h : Hd a l) : Hd a ((d, v) :: l) := ⟨t, h⟩
theorem same28r (p : Nat → Nat) (l : Nat) (v u : Value) (V : World) (hv : SliceN V v l p) (hu : SliceN V u l p) : Calls Try.prog 14 #[v, u] V fun e w' => e = .returned (.bool true) ∧ Below V.heap.size V w' := by
  have h := same28 p p l l v u V hv hu
  rw [decide_eq_true rfl] at h
  exact h
/-- A row of one's own whose block lies from lo to hi. -/
structure RwI (lo hi : Nat) (W : World) (v : Value) (n : Nat) (f : Nat → Nat) : Prop where
  own : W.ownsRow lo 5 1 v n (bytesL n f)
  byt : ∀ j, j < n → f j < 256
  hv : ∀ k, v.ownBlock = some k → k < hi
section
variable {lo hi B n : Nat} {W W' : World} {v : Value} {f : Nat → Nat}
theorem RwI.on (h : RwI lo hi W v n f) (hb : Below W.heap.size W W') : RwI lo hi W' v n f := ⟨ownsRow_below h.own hb, h.byt, h.hv⟩
theorem RwI.keep (h : RwI lo hi W v n f) (e : ∀ k, lo ≤ k → k < hi → W'.heap[k]? = W.heap[k]?) : RwI lo hi W' v n f := ⟨own_hp h.own fun k hk => e k (h.own.lt k hk).1 (h.hv k hk), h.byt, h.hv⟩
theorem RwI.base (h : RwI lo hi W v n f) (hB : B ≤ lo) : RwI B hi W v n f := ⟨own_base h.own hB, h.byt, h.hv⟩
theorem RwI.set {g k : Nat} {u : Value} (h : RwI lo hi W v n f) (hg : g < lo ∨ hi ≤ g) : RwI lo hi (W.setCell ⟨g, k, none⟩ u) v n f := h.keep fun k h1 h2 => heap_set28 (by omega)
theorem RwI.sl (h : RwI lo hi W v n f) : SliceN W v n f := own_slice h.own h.byt
theorem RwI.shp (h : RwI lo hi W v n f) : ∃ a n c, v = .slice a n c := by obtain ⟨a, c, e⟩ := ownQ_shape h.own; exact ⟨a, n, c, e⟩
theorem RwI.of (h : W.ownsRow lo 5 1 v n (bytesL n f)) (hb : ∀ j, j < n → f j < 256) : RwI lo W.heap.size W v n f := ⟨h, hb, fun k hk => (h.lt k hk).2⟩
end
theorem rq_lt {nm f : Nat → Nat} {m : Nat} (hn : ∀ j, j < 8 → nm j < 256) (hf : ∀ j, j < m → f j < 256) : ∀ j, j < rqN m → rqF nm f j < 256 := fun j hj => by
  unfold rqN at hj
  split at hj
  · omega
  · unfold rqF
    split
    · rename_i q; exact hn j q
    · exact hf _ (by omega)
theorem an_lt {f : Nat → Nat} {m : Nat} (hf : ∀ j, j < m → f j < 256) : ∀ j, j < anN m f → anF f j < 256 := fun j hj => by
  unfold anN at hj
  split at hj
  · rename_i q; have := (an_iff.1 q).1; exact hf (1 + j) (by omega)
  · omega
theorem rq_len (m : Nat) : rqN m ≤ 140737488351232 := by unfold rqN; split <;> omega
theorem an_len (m : Nat) (f : Nat → Nat) : anN m f ≤ 140737488351232 := by
  unfold anN
  split
  · rename_i q; have := (an_iff.1 q).2.1; omega
  · omega
theorem req28 (I : Impl) (nm f : Nat → Nat) (m : Nat) (v : Value) (V : World) (hn : ∀ j, j < 8 → nm j < 256) (hv : SliceN V v m f) (hz : ∀ l c, v = .slice none l c → c = 0) (hl : m ≤ 140737488351232) :
    Calls Try.prog 12 #[.agg (bA 8 nm), v] V fun e w' => (∃ r s, e = .returned (.tuple #[r, .int .i64 ((rqE m : Nat) : Int)]) ∧ RwI V.heap.size s w' r (rqN m) (rqF nm f) ∧ s ≤ w'.heap.size ∧ V.heap.size ≤ s) ∧ Below V.heap.size V w' :=
  (I.request nm f m v V hn hv hz hl).mono fun _ w' ⟨⟨r, he, hk⟩, hb⟩ => ⟨⟨r, w'.heap.size, he, RwI.of hk (rq_lt hn hv.bytes), Nat.le_refl _, hb.size⟩, hb⟩
theorem rreq28 (nm f : Nat → Nat) (m : Nat) (v : Value) (V : World) (hn : ∀ j, j < 8 → nm j < 256) (hv : SliceN V v m f) (hz : ∀ l c, v = .slice none l c → c = 0) (_hl : m ≤ 140737488351232) :
    Calls Try.prog 9 #[.agg (bA 8 nm), v] V fun e w' => (∃ r s, e = .returned (.tuple #[r, .int .i64 ((rqE m : Nat) : Int)]) ∧ RwI V.heap.size s w' r (rqN m) (rqF nm f) ∧ s ≤ w'.heap.size ∧ V.heap.size ≤ s) ∧ Below V.heap.size V w' :=
  (rrequest nm f m v V hn hv hz).mono fun _ w' ⟨⟨r, he, hk⟩, hb⟩ => ⟨⟨r, w'.heap.size, he, RwI.of hk (rq_lt hn hv.bytes), Nat.le_refl _, hb.size⟩, hb⟩
theorem ansr28 (I : Impl) (f : Nat → Nat) (m : Nat) (v : Value) (V : World) (hv : SliceN V v m f) (hz : ∀ l c, v = .slice none l c → c = 0) (hl : m ≤ 140737488351232) :
    Calls Try.prog 13 #[v] V fun e w' => (∃ r s, e = .returned (.tuple #[.int .i64 ((anH m f : Nat) : Int), r, .int .i64 ((anE m f : Nat) : Int)]) ∧ RwI V.heap.size s w' r (anN m f) (anF f) ∧ s ≤ w'.heap.size ∧ V.heap.size ≤ s) ∧ Below V.heap.size V w' :=
  (I.answer f m v V hv hz hl).mono fun _ w' ⟨⟨r, he, hk⟩, hb⟩ => ⟨⟨r, w'.heap.size, he, RwI.of hk (an_lt hv.bytes), Nat.le_refl _, hb.size⟩, hb⟩
theorem rans28 (f : Nat → Nat) (m : Nat) (v : Value) (V : World) (hv : SliceN V v m f) :
    Calls Try.prog 10 #[v] V fun e w' => (∃ r s, e = .returned (.tuple #[.int .i64 ((anH m f : Nat) : Int), r, .int .i64 ((anE m f : Nat) : Int)]) ∧ RwI V.heap.size s w' r (anN m f) (anF f) ∧ s ≤ w'.heap.size ∧ V.heap.size ≤ s) ∧ Below V.heap.size V w' :=
  (ranswer f m v V hv).mono fun _ w' ⟨⟨r, he, hk⟩, hb⟩ => ⟨⟨r, w'.heap.size, he, RwI.of hk (an_lt hv.bytes), Nat.le_refl _, hb.size⟩, hb⟩
/-- Two lists. -/
def twV (a b : Value) (i : Nat) : Value := if i = 0 then a else b
def twL (a b i : Nat) : Nat := if i = 0 then a else b
def twC (f p : Nat → Nat) (i : Nat) : Nat → Nat := if i = 0 then f else p
theorem two_ls {W : World} {g m l : Nat} {a b : Value} {f p : Nat → Nat} (h : W.heap[g]? = some (.cells #[a, b] 23)) (ha : SliceN W a m f) (haz : ∀ l c, a = .slice none l c → c = 0) (hal : m ≤ 140737488351232) (hb : SliceN W b l p) (hbz : ∀ l c, b = .slice none l c → c = 0) (hbl : l ≤ 140737488351232) : Ls W (.slice (some ⟨g, 0, none⟩) 2 2) 2 (twV a b) (twL m l) (twC f p) := by
  refine ⟨⟨_, 2, rfl, Nat.le_refl _, by omega, fun _ => ⟨g, 0, rfl, (Array.getElem?_eq_some_iff.1 h).1, fun i hi => ?_⟩⟩, fun i hi => ?_, fun i hi => ?_, fun i hi => ?_⟩
  · rw [cell_of_row _ _ _ _ _ _ h]
    match i, hi with
    | 0, _ => rfl
    | 1, _ => rfl
  · match i, hi with
    | 0, _ => exact ha
    | 1, _ => exact hb
  · match i, hi with
    | 0, _ => exact haz
    | 1, _ => exact hbz
  · match i, hi with
    | 0, _ => exact hal
    | 1, _ => exact hbl
theorem tw_lt {V : World} {a b : Value} {m l i : Nat} {f p : Nat → Nat} (ha : SliceN V a m f) (hb : SliceN V b l p) (k : Nat) (hk : k < twL m l i) : twC f p i k < 256 := by
  unfold twL at hk
  unfold twC
  by_cases e : i = 0
  · rw [if_pos e] at hk ⊢; exact ha.bytes k hk
  · rw [if_neg e] at hk ⊢; exact hb.bytes k hk
theorem cell0 {lo hi m l : Nat} {W : World} {v : Value} {g cp : Nat → Nat} {f p : Nat → Nat} (h : CpI lo hi W v 2 g cp (twL m l) (twC f p)) : SliceN W (.slice (some ⟨g 0, 0, none⟩) m (cp 0)) m f := h.ls.cell 0 (by omega)
theorem cell1 {lo hi m l : Nat} {W : World} {v : Value} {g cp : Nat → Nat} {f p : Nat → Nat} (h : CpI lo hi W v 2 g cp (twL m l) (twC f p)) : SliceN W (.slice (some ⟨g 1, 0, none⟩) l (cp 1)) l p := h.ls.cell 1 (by omega)
theorem execLdC0 {lo hi m l : Nat} {W : World} {v : Value} {g cp : Nat → Nat} {f p : Nat → Nat} {o : Oper} {a : Act} {x : Operand} (h : CpI lo hi W v 2 g cp (twL m l) (twC f p)) (ho : o.op = .load 23 x) (hx : a.eval x = .pointer (some ⟨adB v, adO v + 0, none⟩)) : (execOp a.eval o).run Try.prog W = .ok (.value (.slice (some ⟨g 0, 0, none⟩) m (cp 0))) W := execLdLs (k := 0) h.ls ho hx (by omega)
theorem execLdC1 {lo hi m l : Nat} {W : World} {v : Value} {g cp : Nat → Nat} {f p : Nat → Nat} {o : Oper} {a : Act} {x : Operand} (h : CpI lo hi W v 2 g cp (twL m l) (twC f p)) (ho : o.op = .load 23 x) (hx : a.eval x = .pointer (some ⟨adB v, adO v + 1, none⟩)) : (execOp a.eval o).run Try.prog W = .ok (.value (.slice (some ⟨g 1, 0, none⟩) l (cp 1))) W := execLdLs (k := 1) h.ls ho hx (by omega)
/-- Four lists. -/
def fo4 (a b c d : Value) (i : Nat) : Value := if i < 2 then twV a b i else twV c d (i - 2)
theorem own_L4 (W : World) (a b c d : Value) : (W.alloc (.cells #[a, b, c, d] 23)).ownsRow W.heap.size 23 1 (.slice (some ⟨W.heap.size, 0, none⟩) 4 4) 4 (lL (fo4 a b c d) 4) :=
  ⟨rfl, Or.inr ⟨W.heap.size, 4, #[a, b, c, d], rfl, Nat.le_refl _, heapNew W _, Nat.le_refl _, by unfold maxLen; omega, rfl, rfl⟩⟩
theorem execBsL4 {o : Oper} {a : Act} {w : World} {x y z u : Operand} {p q r s : Value} (ho : o.op = .buildSlice 29 4 #[(0, x), (1, y), (2, z), (3, u)]) (hx : a.eval x = p) (hy : a.eval y = q) (hz : a.eval z = r) (hu : a.eval u = s) (hp : ∃ g n c, p = .slice g n c) (hq : ∃ g n c, q = .slice g n c) (hr : ∃ g n c, r = .slice g n c) (hs : ∃ g n c, s = .slice g n c) : (execOp a.eval o).run Try.prog w = .ok (.value (.slice (some ⟨w.heap.size, 0, none⟩) 4 4)) (w.alloc (.cells #[p, q, r, s] 23)) := by
  obtain ⟨_, _, _, rfl⟩ := hp
  obtain ⟨_, _, _, rfl⟩ := hq
  obtain ⟨_, _, _, rfl⟩ := hr
  obtain ⟨_, _, _, rfl⟩ := hs
  unfold execOp
  simp only [ho, List.map_toArray, List.map_cons, List.map_nil, hx, hy, hz, hu]
  simp [go_sem]
theorem fam_two {lo mid hi n k : Nat} {W : World} {a b : Value} {f g : Nat → Nat} (A : RwI lo mid W a n f) (B : RwI mid hi W b k g) (h : lo ≤ mid) : Fam lo 2 (twV a b) (twL n k) (twC f g) W := by
  have far : Dis a b := fun q h1 h2 => by have := A.hv q h1; have := (B.own.lt q h2).1; omega
  refine ⟨fun t ht => ?_, fun s t hs ht e => ?_⟩
  · match t, ht with
    | 0, _ => exact A.own
    | 1, _ => exact own_base B.own h
  · match s, hs, t, ht with
    | 0, _, 0, _ => exact absurd rfl e
    | 0, _, 1, _ => exact far
    | 1, _, 0, _ => exact far.symm
    | 1, _, 1, _ => exact absurd rfl e
theorem apart4 {s43 s49 s57 s64 s72 g n k : Nat} {W : World} {a b c d : Value} {f p : Nat → Nat} (own : W.ownsRow s72 23 1 (.slice (some ⟨g, 0, none⟩) 4 4) 4 (lL (fo4 a b c d) 4)) (A : RwI s43 s49 W a n f) (B : RwI s49 s57 W b n f) (C : RwI s57 s64 W c k p) (D : RwI s64 s72 W d k p) (h1 : s43 ≤ s49) (h2 : s49 ≤ s57) (h3 : s57 ≤ s64) (h4 : s64 ≤ s72) (h5 : s72 ≤ W.heap.size) (hn : n ≤ 140737488351232) (hk : k ≤ 140737488351232) :
    Calls Try.prog 17 #[.slice (some ⟨g, 0, none⟩) 4 4] W fun e w' => e = .returned (.bool true) ∧ Below s43 W w' := by
  have F := fam_cat (fam_two A B h1) (fam_two C D h3) (fun t ht q hq => by
    match t, ht with
    | 0, _ => have := A.hv q hq; omega
    | 1, _ => exact B.hv q hq) (Nat.le_trans h1 h2)
  refine Calls.mono (apart28 s43 s72 4 g 4 _ _ _ W own F (by omega) (fun t ht => ?_) (by omega)) fun e w' ⟨q1, q2⟩ => ⟨q1, ⟨q2.os, q2.tape, q2.output, q2.size, fun i hi => q2.block i (by omega) fun ⟨t, ht, q⟩ => ?_⟩⟩
  · show (if t < 2 then twL n n t else twL k k (t - 2)) ≤ _
    unfold twL
    split <;> split <;> assumption
  · have := ((F.rows t ht).lt i q).1
    omega
set_option maxRecDepth 100000 in
set_option maxHeartbeats 4000000 in
/-- DropTells. -/
theorem tells28 (I : Impl) (nm f p : Nat → Nat) (m l : Nat) (mv pv : Value) (V : World) (hn : ∀ j, j < 8 → nm j < 256) (hM : SliceN V mv m f) (hMz : ∀ l c, mv = .slice none l c → c = 0) (hMl : m ≤ 140737488351232) (hP : SliceN V pv l p) (hPz : ∀ l c, pv = .slice none l c → c = 0) (hPl : l ≤ 140737488351232) :
    Calls Try.prog 3 #[.agg (bA 8 nm), mv, pv] V fun e w' => e = .returned (.bool true) ∧ Below V.heap.size V w' := by
  go_enter Try.func3, Try.ntmps3
  refine wo_ 195 [(0, .agg (bA 8 nm)), (1, mv), (2, pv)] ?_
  rintro a A ⟨t0, t1, t2, -⟩
  have BW : Below V.heap.size V V := Below.refl _ _
  have FM := hM
  have FP := hP
  refine wp_seq ?_
  obtain ⟨g3, egg3⟩ : ∃ z_ : Nat, V.heap.size = z_ := ⟨_, rfl⟩
  refine wi_ A (h3_ t0 t1 t2) (rs_ 0 (fun a ee => ?_))
  refine stepV rfl rfl (execBx8 rfl (ee _)) ⟨.pointer (some ⟨g3, 0, none⟩), ⟨_, rfl, by subst egg3; rfl⟩, fun X0 hX => ?_⟩
  have bQ : Below V.heap.size V X0 := by subst hX egg3; exact (belNew V _)
  have F3 : X0.heap[g3]? = some (.cells (bA 8 nm) 22) := by subst hX egg3; exact heapNew V _
  have bX := bQ
  clear bQ hX egg3 ee a
  refine rf_ [(3, .pointer (some ⟨g3, 0, none⟩))] (h2_ t1 t2) ?_
  rintro a A ⟨t3, -⟩ ⟨t1, t2, -⟩
  replace FM := (FM.on bX)
  replace FP := (FP.on bX)
  have ZX0 := bX.size
  replace BW := BW.trans (bX.mono BW.size)
  clear bX
  have BB : Below X0.heap.size X0 X0 := Below.refl _ _
  refine wp_seq ?_
  refine wp_seq ?_
  refine wi_ A (h3_ t1 t2 t3) (rc_ 0 (awake28 I X0) (cb_ fun X1 bQ => ?_))
  replace BB := BB.trans (bQ.mono BB.size)
  clear bQ
  refine rv_ 1 (.bool false) (fun a ee => execNot8 (b := true) rfl (ee _)) (rf_ [(27, .bool false)] (h3_ t1 t2 t3) ?_)
  rintro a A ⟨t27, -⟩ ⟨t1, t2, t3, -⟩
  refine wp_cond_false t27 ?_
  refine wp_skip ?_
  clear t27
  have Fs0 : (X0.heap.size ≤ X1.heap.size) := BB.size
  refine wp_seq ?_
  refine wi_ A (h3_ t1 t2 t3) (rv_ 0 (.agg (bA 8 nm)) (fun a ee => execLd8 (on9 F3 BB) rfl (ee _)) (rc_ 2 (rreq28 nm f m mv X1 hn (FM.on BB) hMz hMl) fun e X3 hh => ?_))
  obtain ⟨⟨v31, s31, he, hk, hz, hq⟩, hb⟩ := hh
  refine ⟨_, he, ?_⟩
  have bQ : Below X1.heap.size X1 X3 := hb
  have FW : (RwI (X0.heap.size) (s31) X3 v31 (rqN m) (rqF nm f)) := hk.base Fs0
  have Fs31 : (s31 ≤ X3.heap.size) := hz
  have Fp31 : (X0.heap.size ≤ s31) := Nat.le_trans Fs0 hq
  replace BB := BB.trans (bQ.mono BB.size)
  clear Fs0 bQ
  refine rf_ [(7, v31), (8, .int .i64 ((rqE m : Nat) : Int))] (h3_ t1 t2 t3) ?_
  rintro a A ⟨t7, t8, -⟩ ⟨t1, t2, t3, -⟩
  have hp31 := Fp31
  clear Fp31
  refine wp_seq ?_
  refine wi_ A (h5_ t1 t2 t3 t7 t8) (rc_ 1 (rans28 p l pv X3 (FP.on BB)) fun e X4 hh => ?_)
  obtain ⟨⟨v36, s36, he, hk, hz, hq⟩, hb⟩ := hh
  refine ⟨_, he, ?_⟩
  have bQ : Below X3.heap.size X3 X4 := hb
  have FT : (RwI (s31) (s36) X4 v36 (anN l p) (anF p)) := hk.base Fs31
  have Fs36 : (s36 ≤ X4.heap.size) := hz
  have Fp36 : (s31 ≤ s36) := Nat.le_trans Fs31 hq
  replace FW := (FW.on bQ)
  replace BB := BB.trans (bQ.mono BB.size)
  clear Fs31 bQ
  refine rf_ [(9, .int .i64 ((anH l p : Nat) : Int)), (10, v36), (11, .int .i64 ((anE l p : Nat) : Int))] (h5_ t1 t2 t3 t7 t8) ?_
  rintro a A ⟨t9, t10, t11, -⟩ ⟨t1, t2, t3, t7, t8, -⟩
  have hp36 := Fp36
  clear Fp36
  refine wp_seq ?_
  obtain ⟨g42, egg42⟩ : ∃ z_ : Nat, X4.heap.size = z_ := ⟨_, rfl⟩
  refine wi_ A (h8_ t1 t2 t3 t7 t8 t9 t10 t11) (rs_ 2 (fun a ee => ?_))
  refine stepV rfl rfl (execBsL2 rfl (ee _) (ee _) (by obtain ⟨q1, q2, q3⟩ := shp hM; exact ⟨q1, _, q2, q3⟩) (by obtain ⟨q1, q2, q3⟩ := shp hP; exact ⟨q1, _, q2, q3⟩)) ⟨.slice (some ⟨g42, 0, none⟩) 2 2, ⟨_, rfl, by subst egg42; rfl⟩, fun X5_1 hX => ?_⟩
  have bQ : Below X4.heap.size X4 X5_1 := by subst hX egg42; exact (belNew X4 _)
  have FL42 : (Ls X5_1 (.slice (some ⟨g42, 0, none⟩) 2 2) 2 (twV mv pv) (twL m l) (twC f p)) := by subst hX egg42; exact two_ls (heapNew X4 _) (FM.on ((BB).trans ((belNew X4 _).mono (BB).size))) hMz hMl (FP.on ((BB).trans ((belNew X4 _).mono (BB).size))) hPz hPl
  replace FW := (FW.on bQ)
  replace FT := (FT.on bQ)
  replace Fs36 := (Nat.le_trans Fs36 bQ.size)
  replace BB := BB.trans (bQ.mono BB.size)
  clear bQ hX egg42 ee a
  refine rc_ 3 (copied28 2 _ (twV mv pv) (twL m l) (twC f p) X5_1 FL42 (by omega)) fun e X5 hh => ?_
  obtain ⟨⟨v43, g43, cp43, s43, he, hk, hz, hq⟩, hb⟩ := hh
  refine ⟨_, he, ?_⟩
  have bQ : Below X5_1.heap.size X5_1 X5 := hb
  have FI : (CpI s36 s43 X5 v43 2 g43 cp43 (twL m l) (twC f p)) := hk.base Fs36
  have Fs43 : (s43 ≤ X5.heap.size) := hz
  have Fp43 : (s36 ≤ s43) := Nat.le_trans Fs36 hq
  replace FW := (FW.on bQ)
  replace FT := (FT.on bQ)
  replace BB := BB.trans (bQ.mono BB.size)
  clear Fs36 FL42 bQ
  refine rf_ [(12, v43)] (h8_ t1 t2 t3 t7 t8 t9 t10 t11) ?_
  rintro a A ⟨t12, -⟩ ⟨t1, t2, t3, t7, t8, t9, t10, t11, -⟩
  have hp43 := Fp43
  clear Fp43
  refine wp_seq ?_
  refine wj_ [0, 1, 2, 3, 4, 5, 6, 7, 8, 9] [4] [0, 2, 3] [] A (h9_ t1 t2 t3 t7 t8 t9 t10 t11 t12) (fun X6_0 bD => ?_)
  refine dv_ 0 (.agg (bA 8 nm)) (fun a X ee hb => execLd8 (on9 F3 (BB.trans (hb.mono BB.size))) rfl (ee _)) (dv_ 2 (.pointer (some ⟨adB v43, adO v43 + 0, none⟩)) (fun a X ee hb => execIdxLs (k := 0) ((FI.on hb).ls) rfl (ee _) rfl (by omega)) (dv_ 3 (.slice (some ⟨g43 0, 0, none⟩) m (cp43 0)) (fun a X ee hb => execLdC0 (FI.on hb) rfl (ee _)) (dc_ 4 (req28 I nm f m (.slice (some ⟨g43 0, 0, none⟩) m (cp43 0)) X6_0 hn (cell0 (FI.on bD)) (fun _ _ h => by cases h) hMl) fun e X6 hh => ?_)))
  obtain ⟨⟨v49, s49, he, hk, hz, hq⟩, hb⟩ := hh
  refine ⟨_, he, ?_⟩
  have bQ : Below X6_0.heap.size X6_0 X6 := hb
  have FA : (RwI (s43) (s49) X6 v49 (rqN m) (rqF nm f)) := hk.base (Nat.le_trans Fs43 bD.size)
  have Fs49 : (s49 ≤ X6.heap.size) := hz
  have Fp49 : (s43 ≤ s49) := Nat.le_trans (Nat.le_trans Fs43 bD.size) hq
  replace bD := bD.trans (bQ.mono bD.size)
  clear bQ Fs43
  refine ⟨Or.inr bD, ?_⟩
  refine dz_ [(13, v49), (14, .int .i64 ((rqE m : Nat) : Int))] (h9_ t1 t2 t3 t7 t8 t9 t10 t11 t12) ?_
  rintro a A ⟨t13, t14, -⟩ ⟨t1, t2, t3, t7, t8, t9, t10, t11, t12, -⟩
  replace FW := (FW.on bD)
  replace FT := (FT.on bD)
  replace FI := (FI.on bD)
  replace BB := BB.trans (bD.mono BB.size)
  clear bD
  have hp49 := Fp49
  clear Fp49
  refine wp_seq ?_
  refine wj_ [0, 1, 2, 3, 4, 5, 6, 7, 8, 9] [4] [0, 2, 3] [] A (h11_ t1 t2 t3 t7 t8 t9 t10 t11 t12 t13 t14) (fun X7_0 bD => ?_)
  refine dv_ 0 (.agg (bA 8 nm)) (fun a X ee hb => execLd8 (on9 F3 (BB.trans (hb.mono BB.size))) rfl (ee _)) (dv_ 2 (.pointer (some ⟨adB v43, adO v43 + 0, none⟩)) (fun a X ee hb => execIdxLs (k := 0) ((FI.on hb).ls) rfl (ee _) rfl (by omega)) (dv_ 3 (.slice (some ⟨g43 0, 0, none⟩) m (cp43 0)) (fun a X ee hb => execLdC0 (FI.on hb) rfl (ee _)) (dc_ 4 (req28 I nm f m (.slice (some ⟨g43 0, 0, none⟩) m (cp43 0)) X7_0 hn (cell0 (FI.on bD)) (fun _ _ h => by cases h) hMl) fun e X7 hh => ?_)))
  obtain ⟨⟨v57, s57, he, hk, hz, hq⟩, hb⟩ := hh
  refine ⟨_, he, ?_⟩
  have bQ : Below X7_0.heap.size X7_0 X7 := hb
  have FB : (RwI (s49) (s57) X7 v57 (rqN m) (rqF nm f)) := hk.base (Nat.le_trans Fs49 bD.size)
  have Fs57 : (s57 ≤ X7.heap.size) := hz
  have Fp57 : (s49 ≤ s57) := Nat.le_trans (Nat.le_trans Fs49 bD.size) hq
  replace bD := bD.trans (bQ.mono bD.size)
  clear bQ Fs49
  refine ⟨Or.inr bD, ?_⟩
  refine dz_ [(15, v57), (16, .int .i64 ((rqE m : Nat) : Int))] (h11_ t1 t2 t3 t7 t8 t9 t10 t11 t12 t13 t14) ?_
  rintro a A ⟨t15, t16, -⟩ ⟨t1, t2, t3, t7, t8, t9, t10, t11, t12, t13, t14, -⟩
  replace FW := (FW.on bD)
  replace FT := (FT.on bD)
  replace FI := (FI.on bD)
  replace FA := (FA.on bD)
  replace BB := BB.trans (bD.mono BB.size)
  clear bD
  have hp57 := Fp57
  clear Fp57
  refine wp_seq ?_
  refine wi_ A (h13_ t1 t2 t3 t7 t8 t9 t10 t11 t12 t13 t14 t15 t16) (rv_ 1 (.pointer (some ⟨adB v43, adO v43 + 1, none⟩)) (fun a ee => execIdxLs (k := 1) (FI.ls) rfl (ee _) rfl (by omega)) (rv_ 2 (.slice (some ⟨g43 1, 0, none⟩) l (cp43 1)) (fun a ee => execLdC1 FI rfl (ee _)) (rc_ 3 (ansr28 I p l (.slice (some ⟨g43 1, 0, none⟩) l (cp43 1)) X7 (cell1 FI) (fun _ _ h => by cases h) hPl) fun e X8 hh => ?_)))
  obtain ⟨⟨v64, s64, he, hk, hz, hq⟩, hb⟩ := hh
  refine ⟨_, he, ?_⟩
  have bQ : Below X7.heap.size X7 X8 := hb
  have FC : (RwI (s57) (s64) X8 v64 (anN l p) (anF p)) := hk.base Fs57
  have Fs64 : (s64 ≤ X8.heap.size) := hz
  have Fp64 : (s57 ≤ s64) := Nat.le_trans Fs57 hq
  replace FW := (FW.on bQ)
  replace FT := (FT.on bQ)
  replace FI := (FI.on bQ)
  replace FA := (FA.on bQ)
  replace FB := (FB.on bQ)
  replace BB := BB.trans (bQ.mono BB.size)
  clear Fs57 bQ
  refine rf_ [(17, .int .i64 ((anH l p : Nat) : Int)), (18, v64), (19, .int .i64 ((anE l p : Nat) : Int))] (h13_ t1 t2 t3 t7 t8 t9 t10 t11 t12 t13 t14 t15 t16) ?_
  rintro a A ⟨t17, t18, t19, -⟩ ⟨t1, t2, t3, t7, t8, t9, t10, t11, t12, t13, t14, t15, t16, -⟩
  have hp64 := Fp64
  clear Fp64
  refine wp_seq ?_
  refine wi_ A (h16_ t1 t2 t3 t7 t8 t9 t10 t11 t12 t13 t14 t15 t16 t17 t18 t19) (rv_ 1 (.pointer (some ⟨adB v43, adO v43 + 1, none⟩)) (fun a ee => execIdxLs (k := 1) (FI.ls) rfl (ee _) rfl (by omega)) (rv_ 2 (.slice (some ⟨g43 1, 0, none⟩) l (cp43 1)) (fun a ee => execLdC1 FI rfl (ee _)) (rc_ 3 (ansr28 I p l (.slice (some ⟨g43 1, 0, none⟩) l (cp43 1)) X8 (cell1 FI) (fun _ _ h => by cases h) hPl) fun e X9 hh => ?_)))
  obtain ⟨⟨v72, s72, he, hk, hz, hq⟩, hb⟩ := hh
  refine ⟨_, he, ?_⟩
  have bQ : Below X8.heap.size X8 X9 := hb
  have FD : (RwI (s64) (s72) X9 v72 (anN l p) (anF p)) := hk.base Fs64
  have Fs72 : (s72 ≤ X9.heap.size) := hz
  have Fp72 : (s64 ≤ s72) := Nat.le_trans Fs64 hq
  replace FW := (FW.on bQ)
  replace FT := (FT.on bQ)
  replace FI := (FI.on bQ)
  replace FA := (FA.on bQ)
  replace FB := (FB.on bQ)
  replace FC := (FC.on bQ)
  replace BB := BB.trans (bQ.mono BB.size)
  clear Fs64 bQ
  refine rf_ [(20, .int .i64 ((anH l p : Nat) : Int)), (21, v72), (22, .int .i64 ((anE l p : Nat) : Int))] (h16_ t1 t2 t3 t7 t8 t9 t10 t11 t12 t13 t14 t15 t16 t17 t18 t19) ?_
  rintro a A ⟨t20, t21, t22, -⟩ ⟨t1, t2, t3, t7, t8, t9, t10, t11, t12, t13, t14, t15, t16, t17, t18, t19, -⟩
  have hp72 := Fp72
  clear Fp72
  refine wp_seq ?_
  refine wp_seq ?_
  refine wi_ A (hc_ t1 (hc_ t2 (hc_ t3 (h16_ t7 t8 t9 t10 t11 t12 t13 t14 t15 t16 t17 t18 t19 t20 t21 t22)))) (rv_ 2 (.bool false) (fun a ee => execDec (execNeN (p := rqE m) (q := rqE m) rfl (ee _) (ee _)) (decide_eq_false (by omega))) (rv_ 6 (.bool false) (fun a ee => execDec (execNeN (p := rqE m) (q := rqE m) rfl (ee _) (ee _)) (decide_eq_false (by omega))) (rv_ 11 (.bool false) (fun a ee => execDec (execNeN (p := anE l p) (q := anE l p) rfl (ee _) (ee _)) (decide_eq_false (by omega))) (rv_ 16 (.bool false) (fun a ee => execDec (execNeN (p := anE l p) (q := anE l p) rfl (ee _) (ee _)) (decide_eq_false (by omega))) (rv_ 21 (.bool false) (fun a ee => execDec (execNeN (p := anH l p) (q := anH l p) rfl (ee _) (ee _)) (decide_eq_false (by omega))) (rv_ 26 (.bool false) (fun a ee => execDec (execNeN (p := anH l p) (q := anH l p) rfl (ee _) (ee _)) (decide_eq_false (by omega))) (rf_ [(103, .bool false)] (h10_ t1 t2 t3 t7 t10 t12 t13 t15 t18 t21) ?_)))))))
  rintro a A ⟨t103, -⟩ ⟨t1, t2, t3, t7, t10, t12, t13, t15, t18, t21, -⟩
  refine wp_cond_false t103 ?_
  refine wp_skip ?_
  clear t103
  refine wp_seq ?_
  refine wp_seq ?_
  refine wi_ A (h10_ t1 t2 t3 t7 t10 t12 t13 t15 t18 t21) (rc_ 2 (same28r (rqF nm f) (rqN m) _ _ X9 FA.sl FW.sl) (cb_ fun X12_1 bQ => ?_))
  replace FW := (FW.on bQ)
  replace FT := (FT.on bQ)
  replace FI := (FI.on bQ)
  replace FA := (FA.on bQ)
  replace FB := (FB.on bQ)
  replace FC := (FC.on bQ)
  replace FD := (FD.on bQ)
  replace Fs72 := (Nat.le_trans Fs72 bQ.size)
  replace BB := BB.trans (bQ.mono BB.size)
  clear bQ
  refine rv_ 3 (.bool false) (fun a ee => execNot8 (b := true) rfl (ee _)) (rc_ 7 (same28r (rqF nm f) (rqN m) _ _ X12_1 FB.sl FW.sl) (cb_ fun X12_2 bQ => ?_))
  replace FW := (FW.on bQ)
  replace FT := (FT.on bQ)
  replace FI := (FI.on bQ)
  replace FA := (FA.on bQ)
  replace FB := (FB.on bQ)
  replace FC := (FC.on bQ)
  replace FD := (FD.on bQ)
  replace Fs72 := (Nat.le_trans Fs72 bQ.size)
  replace BB := BB.trans (bQ.mono BB.size)
  clear bQ
  refine rv_ 8 (.bool false) (fun a ee => execNot8 (b := true) rfl (ee _)) (rc_ 13 (same28r (anF p) (anN l p) _ _ X12_2 FC.sl FT.sl) (cb_ fun X12_3 bQ => ?_))
  replace FW := (FW.on bQ)
  replace FT := (FT.on bQ)
  replace FI := (FI.on bQ)
  replace FA := (FA.on bQ)
  replace FB := (FB.on bQ)
  replace FC := (FC.on bQ)
  replace FD := (FD.on bQ)
  replace Fs72 := (Nat.le_trans Fs72 bQ.size)
  replace BB := BB.trans (bQ.mono BB.size)
  clear bQ
  refine rv_ 14 (.bool false) (fun a ee => execNot8 (b := true) rfl (ee _)) (rc_ 19 (same28r (anF p) (anN l p) _ _ X12_3 FD.sl FT.sl) (cb_ fun X12 bQ => ?_))
  replace FW := (FW.on bQ)
  replace FT := (FT.on bQ)
  replace FI := (FI.on bQ)
  replace FA := (FA.on bQ)
  replace FB := (FB.on bQ)
  replace FC := (FC.on bQ)
  replace FD := (FD.on bQ)
  replace Fs72 := (Nat.le_trans Fs72 bQ.size)
  replace BB := BB.trans (bQ.mono BB.size)
  clear bQ
  refine rv_ 20 (.bool false) (fun a ee => execNot8 (b := true) rfl (ee _)) (rf_ [(125, .bool false)] (h10_ t1 t2 t3 t7 t10 t12 t13 t15 t18 t21) ?_)
  rintro a A ⟨t125, -⟩ ⟨t1, t2, t3, t7, t10, t12, t13, t15, t18, t21, -⟩
  refine wp_cond_false t125 ?_
  refine wp_skip ?_
  clear t125
  refine wp_seq ?_
  refine wp_seq ?_
  obtain ⟨g129, egg129⟩ : ∃ z_ : Nat, X12.heap.size = z_ := ⟨_, rfl⟩
  refine wi_ A (h10_ t1 t2 t3 t7 t10 t12 t13 t15 t18 t21) (rs_ 3 (fun a ee => ?_))
  refine stepV rfl rfl (execBsL2 rfl (ee _) (ee _) (by obtain ⟨q1, q2, q3⟩ := shp hM; exact ⟨q1, _, q2, q3⟩) (by obtain ⟨q1, q2, q3⟩ := shp hP; exact ⟨q1, _, q2, q3⟩)) ⟨.slice (some ⟨g129, 0, none⟩) 2 2, ⟨_, rfl, by subst egg129; rfl⟩, fun X14_1 hX => ?_⟩
  have bQ : Below X12.heap.size X12 X14_1 := by subst hX egg129; exact (belNew X12 _)
  have FL129 : (Ls X14_1 (.slice (some ⟨g129, 0, none⟩) 2 2) 2 (twV mv pv) (twL m l) (twC f p)) := by subst hX egg129; exact two_ls (heapNew X12 _) (FM.on ((BB).trans ((belNew X12 _).mono (BB).size))) hMz hMl (FP.on ((BB).trans ((belNew X12 _).mono (BB).size))) hPz hPl
  replace FW := (FW.on bQ)
  replace FT := (FT.on bQ)
  replace FI := (FI.on bQ)
  replace FA := (FA.on bQ)
  replace FB := (FB.on bQ)
  replace FC := (FC.on bQ)
  replace FD := (FD.on bQ)
  replace Fs72 := (Nat.le_trans Fs72 bQ.size)
  replace BB := BB.trans (bQ.mono BB.size)
  clear bQ hX egg129 ee a
  refine rc_ 4 (alike28 2 _ _ _ _ _ _ _ _ X14_1 (FI.ls) (FL129) (fun _ _ => ⟨rfl, fun _ _ => rfl⟩) (by omega)) (cb_ fun X14_2 bQ => ?_)
  replace FW := (FW.on bQ)
  replace FT := (FT.on bQ)
  replace FI := (FI.on bQ)
  replace FA := (FA.on bQ)
  replace FB := (FB.on bQ)
  replace FC := (FC.on bQ)
  replace FD := (FD.on bQ)
  replace Fs72 := (Nat.le_trans Fs72 bQ.size)
  replace FL129 := (FL129.on bQ)
  replace BB := BB.trans (bQ.mono BB.size)
  clear bQ
  refine rv_ 5 (.bool false) (fun a ee => execNot8 (b := true) rfl (ee _)) (rc_ 8 (lent28 _ _ 2 _ _ _ _ _ X14_2 FI (by omega)) (cb_ fun X14 bQ => ?_))
  replace FW := (FW.on bQ)
  replace FT := (FT.on bQ)
  replace FI := (FI.on bQ)
  replace FA := (FA.on bQ)
  replace FB := (FB.on bQ)
  replace FC := (FC.on bQ)
  replace FD := (FD.on bQ)
  replace Fs72 := (Nat.le_trans Fs72 bQ.size)
  replace FL129 := (FL129.on bQ)
  replace BB := BB.trans (bQ.mono BB.size)
  clear bQ
  refine rv_ 9 (.bool false) (fun a ee => execNot8 (b := true) rfl (ee _)) (rf_ [(136, .bool false)] (h10_ t1 t2 t3 t7 t10 t12 t13 t15 t18 t21) ?_)
  rintro a A ⟨t136, -⟩ ⟨t1, t2, t3, t7, t10, t12, t13, t15, t18, t21, -⟩
  refine wp_cond_false t136 ?_
  refine wp_skip ?_
  clear t136
  clear FL129
  refine wp_seq ?_
  refine wp_seq ?_
  refine wi_ A (h10_ t1 t2 t3 t7 t10 t12 t13 t15 t18 t21) (rv_ 1 (.int .i64 ((2 : Nat) : Int)) (fun a ee => execLenLL rfl (ee _) (FI.ls).shp) (rf_ [(137, v43), (138, .int .i64 ((2 : Nat) : Int)), (139, .int .i64 ((0 : Nat) : Int))] (h10_ t1 t2 t3 t7 t10 t12 t13 t15 t18 t21) ?_))
  rintro a A ⟨t137, t138, t139, -⟩ ⟨t1, t2, t3, t7, t10, t12, t13, t15, t18, t21, -⟩
  replace FI : (CpI s36 s43 X14 v43 2 g43 cp43 (twL m l) (xoF (twC f p) 0 0)) := FI.cg (fun t _ j _ => xo_0)
  refine wp_block ?_
  refine wp_loop (fun a W => ∃ (i : Nat), i ≤ 2 ∧ (a.tmps.size = 195 ∧ a.defers = []) ∧ a.eval (.tmp 1) = mv ∧ a.eval (.tmp 2) = pv ∧ a.eval (.tmp 3) = .pointer (some ⟨g3, 0, none⟩) ∧ a.eval (.tmp 7) = v31 ∧ a.eval (.tmp 10) = v36 ∧ a.eval (.tmp 12) = v43 ∧ a.eval (.tmp 13) = v49 ∧ a.eval (.tmp 15) = v57 ∧ a.eval (.tmp 18) = v64 ∧ a.eval (.tmp 21) = v72 ∧ a.eval (.tmp 137) = v43 ∧ a.eval (.tmp 138) = .int .i64 ((2 : Nat) : Int) ∧ a.eval (.tmp 139) = .int .i64 ((i : Nat) : Int) ∧ Below X0.heap.size X0 W ∧ (CpI s36 s43 W v43 2 g43 cp43 (twL m l) (xoF (twC f p) i 0)) ∧ (RwI (X0.heap.size) (s31) W v31 (rqN m) (rqF nm f)) ∧ (RwI (s31) (s36) W v36 (anN l p) (anF p)) ∧ (RwI (s43) (s49) W v49 (rqN m) (rqF nm f)) ∧ (RwI (s49) (s57) W v57 (rqN m) (rqF nm f)) ∧ (RwI (s57) (s64) W v64 (anN l p) (anF p)) ∧ (RwI (s64) (s72) W v72 (anN l p) (anF p)) ∧ (s72 ≤ W.heap.size)) (fun a _ => 2 - (intOf (a.eval (.tmp 139))).toNat) ⟨0, Nat.zero_le _, A, t1, t2, t3, t7, t10, t12, t13, t15, t18, t21, t137, t138, t139, BB, FI, FW, FT, FA, FB, FC, FD, Fs72⟩ ?_
  clear A t1 t2 t3 t7 t10 t12 t13 t15 t18 t21 t137 t138 t139 BB FI FW FT FA FB FC FD Fs72 a
  rintro a XL17 ⟨i, hi, A, t1, t2, t3, t7, t10, t12, t13, t15, t18, t21, t137, t138, t139, BB, FI, FW, FT, FA, FB, FC, FD, Fs72⟩
  have esi := t139
  refine wp_seq ?_
  refine wi_ A (h13_ t1 t2 t3 t7 t10 t12 t13 t15 t18 t21 t137 t138 t139) (rv_ 0 (.bool (decide (i < 2))) (fun a ee => execLtW (p := i) (q := 2) rfl (ee _) (ee _)) (rf_ [(140, .bool (decide (i < 2)))] (h13_ t1 t2 t3 t7 t10 t12 t13 t15 t18 t21 t137 t138 t139) ?_))
  rintro a A ⟨t140, -⟩ ⟨t1, t2, t3, t7, t10, t12, t13, t15, t18, t21, t137, t138, t139, -⟩
  refine wp_seq ?_
  by_cases lti : i < 2
  · rw [decide_eq_true lti] at t140
    refine wp_cond_true t140 ?_
    refine wp_skip ?_
    clear t140
    refine wp_seq ?_
    refine wp_block ?_
    refine wp_seq ?_
    refine wi_ A (h13_ t1 t2 t3 t7 t10 t12 t13 t15 t18 t21 t137 t138 t139) (rv_ 0 (.pointer (some ⟨adB v43, adO v43 + i, none⟩)) (fun a ee => execIdxLs (k := i) (FI.ls) rfl (ee _) (ee _) lti) (rv_ 1 (.slice (some ⟨g43 i, 0, none⟩) (twL m l i) (cp43 i)) (fun a ee => execLdLs (k := i) (FI.ls) rfl (ee _) lti) (rf_ [(24, .slice (some ⟨g43 i, 0, none⟩) (twL m l i) (cp43 i))] (h13_ t1 t2 t3 t7 t10 t12 t13 t15 t18 t21 t137 t138 t139) ?_)))
    rintro a A ⟨t24, -⟩ ⟨t1, t2, t3, t7, t10, t12, t13, t15, t18, t21, t137, t138, t139, -⟩
    refine wp_seq ?_
    refine wi_ A (h14_ t1 t2 t3 t7 t10 t12 t13 t15 t18 t21 t137 t138 t139 t24) (rv_ 1 (.int .i64 ((twL m l i : Nat) : Int)) (fun a ee => execLenV (len := twL m l i) rfl (ee _) ⟨_, _, rfl⟩) (rf_ [(144, .int .i64 ((twL m l i : Nat) : Int)), (145, .int .i64 ((0 : Nat) : Int))] (h14_ t1 t2 t3 t7 t10 t12 t13 t15 t18 t21 t137 t138 t139 t24) ?_))
    rintro a A ⟨t144, t145, -⟩ ⟨t1, t2, t3, t7, t10, t12, t13, t15, t18, t21, t137, t138, t139, t24, -⟩
    have hgs := FI.hr i lti
    have hgV := FI.lo_ lti
    have hcl := FI.len i lti
    have hcb := FI.byt i lti
    have hVs : X0.heap.size ≤ g43 i := by omega
    refine wp_block ?_
    refine wp_loop (fun a W => ∃ (k : Nat), k ≤ twL m l i ∧ (a.tmps.size = 195 ∧ a.defers = []) ∧ a.eval (.tmp 1) = mv ∧ a.eval (.tmp 2) = pv ∧ a.eval (.tmp 3) = .pointer (some ⟨g3, 0, none⟩) ∧ a.eval (.tmp 7) = v31 ∧ a.eval (.tmp 10) = v36 ∧ a.eval (.tmp 12) = v43 ∧ a.eval (.tmp 13) = v49 ∧ a.eval (.tmp 15) = v57 ∧ a.eval (.tmp 18) = v64 ∧ a.eval (.tmp 21) = v72 ∧ a.eval (.tmp 137) = v43 ∧ a.eval (.tmp 138) = .int .i64 ((2 : Nat) : Int) ∧ a.eval (.tmp 139) = .int .i64 ((i : Nat) : Int) ∧ a.eval (.tmp 24) = .slice (some ⟨g43 i, 0, none⟩) (twL m l i) (cp43 i) ∧ a.eval (.tmp 144) = .int .i64 ((twL m l i : Nat) : Int) ∧ a.eval (.tmp 145) = .int .i64 ((k : Nat) : Int) ∧ Below X0.heap.size X0 W ∧ (CpI s36 s43 W v43 2 g43 cp43 (twL m l) (xoF (twC f p) i k)) ∧ (RwI (X0.heap.size) (s31) W v31 (rqN m) (rqF nm f)) ∧ (RwI (s31) (s36) W v36 (anN l p) (anF p)) ∧ (RwI (s43) (s49) W v49 (rqN m) (rqF nm f)) ∧ (RwI (s49) (s57) W v57 (rqN m) (rqF nm f)) ∧ (RwI (s57) (s64) W v64 (anN l p) (anF p)) ∧ (RwI (s64) (s72) W v72 (anN l p) (anF p)) ∧ (s72 ≤ W.heap.size)) (fun a _ => twL m l i - (intOf (a.eval (.tmp 145))).toNat) ⟨0, Nat.zero_le _, A, t1, t2, t3, t7, t10, t12, t13, t15, t18, t21, t137, t138, t139, t24, t144, t145, BB, FI, FW, FT, FA, FB, FC, FD, Fs72⟩ ?_
    clear A t1 t2 t3 t7 t10 t12 t13 t15 t18 t21 t137 t138 t139 t24 t144 t145 BB FI FW FT FA FB FC FD Fs72 a
    rintro a XL20 ⟨k, hk, A, t1, t2, t3, t7, t10, t12, t13, t15, t18, t21, t137, t138, t139, t24, t144, t145, BB, FI, FW, FT, FA, FB, FC, FD, Fs72⟩
    have esk := t145
    refine wp_seq ?_
    refine wi_ A (h16_ t1 t2 t3 t7 t10 t12 t13 t15 t18 t21 t137 t138 t139 t24 t144 t145) (rv_ 0 (.bool (decide (k < twL m l i))) (fun a ee => execLtW (p := k) (q := twL m l i) rfl (ee _) (ee _)) (rf_ [(146, .bool (decide (k < twL m l i)))] (h16_ t1 t2 t3 t7 t10 t12 t13 t15 t18 t21 t137 t138 t139 t24 t144 t145) ?_))
    rintro a A ⟨t146, -⟩ ⟨t1, t2, t3, t7, t10, t12, t13, t15, t18, t21, t137, t138, t139, t24, t144, t145, -⟩
    refine wp_seq ?_
    by_cases ltk : k < twL m l i
    · rw [decide_eq_true ltk] at t146
      refine wp_cond_true t146 ?_
      refine wp_skip ?_
      clear t146
      refine wp_seq ?_
      refine wp_block ?_
      have hck : twC f p i k < 256 := tw_lt hM hP k ltk
      refine wp_seq ?_
      refine wi_ A (h16_ t1 t2 t3 t7 t10 t12 t13 t15 t18 t21 t137 t138 t139 t24 t144 t145) (rf_ [(25, .int .i64 ((k : Nat) : Int))] (h16_ t1 t2 t3 t7 t10 t12 t13 t15 t18 t21 t137 t138 t139 t24 t144 t145) ?_)
      rintro a A ⟨t25, -⟩ ⟨t1, t2, t3, t7, t10, t12, t13, t15, t18, t21, t137, t138, t139, t24, t144, t145, -⟩
      refine wi_ A (hc_ t1 (h16_ t2 t3 t7 t10 t12 t13 t15 t18 t21 t137 t138 t139 t24 t144 t145 t25)) (rv_ 2 (.pointer (some ⟨g43 i, 0 + k, none⟩)) (fun a ee => execIdxS (k := k) rfl (ee _) (ee _) ltk) (rv_ 3 (.int .u8 ((twC f p i k : Nat) : Int)) (fun a ee => execLdB rfl (ee _) ((own_cell28 (FI.fam.rows i lti) (show k < twL m l i + 2 by omega)).1.trans (by rw [show rmY (xoF (twC f p) i k i) (twL m l i) k = twC f p i k from (if_pos ltk).trans xo_at]))) (rv_ 4 (.int .u8 ((twC f p i k ^^^ 255 : Nat) : Int)) (fun a ee => execXor28 rfl (ee _) hck) (rv_ 5 (.pointer (some ⟨g43 i, 0 + k, none⟩)) (fun a ee => execIdxS (k := k) rfl (ee _) (ee _) ltk) (rs_ 6 (fun a ee => ?_))))))
      obtain ⟨hc_, hf_⟩ := own_cell28 (FI.fam.rows i lti) (show k < twL m l i + 2 by omega)
      refine stepS rfl rfl (execStB rfl (ee _) (ee _) hc_ hf_) ⟨_, ⟨_, rfl, rfl⟩, fun X22 hX => ?_⟩
      obtain ⟨BB, FW, FT, FA, FB, FC, FD, Fs72, FI2⟩ : Below X0.heap.size X0 X22 ∧ (RwI (X0.heap.size) (s31) X22 v31 (rqN m) (rqF nm f)) ∧ (RwI (s31) (s36) X22 v36 (anN l p) (anF p)) ∧ (RwI (s43) (s49) X22 v49 (rqN m) (rqF nm f)) ∧ (RwI (s49) (s57) X22 v57 (rqN m) (rqF nm f)) ∧ (RwI (s57) (s64) X22 v64 (anN l p) (anF p)) ∧ (RwI (s64) (s72) X22 v72 (anN l p) (anF p)) ∧ (s72 ≤ X22.heap.size) ∧ (CpI s36 s43 X22 v43 2 g43 cp43 (twL m l) (xoF (twC f p) i (k + 1))) := by subst hX; exact ⟨(BB).setCell hVs _, (FW.set (by omega)), (FT.set (by omega)), (FA.set (by omega)), (FB.set (by omega)), (FC.set (by omega)), (FD.set (by omega)), (Nat.le_trans Fs72 (set_sz _ _ _ _)), ((FI.put lti ltk (xor_lt hck)).cg (fun s _ l _ => xo_set))⟩
      clear FI hX ee a
      refine rf_ [] (h16_ t1 t2 t3 t7 t10 t12 t13 t15 t18 t21 t137 t138 t139 t24 t144 t145) ?_
      rintro a A - ⟨t1, t2, t3, t7, t10, t12, t13, t15, t18, t21, t137, t138, t139, t24, t144, t145, -⟩
      refine wi_ A (h16_ t1 t2 t3 t7 t10 t12 t13 t15 t18 t21 t137 t138 t139 t24 t144 t145) (rv_ 0 (.int .i64 ((k + 1 : Nat) : Int)) (fun a ee => execAd8 (p := k) (q := 1) rfl (ee _) rfl (by omega)) (rf_ [(145, .int .i64 ((k + 1 : Nat) : Int))] (h15_ t1 t2 t3 t7 t10 t12 t13 t15 t18 t21 t137 t138 t139 t24 t144) ?_))
      rintro a A ⟨t145, -⟩ ⟨t1, t2, t3, t7, t10, t12, t13, t15, t18, t21, t137, t138, t139, t24, t144, -⟩
      exact ⟨⟨k + 1, ltk, A, t1, t2, t3, t7, t10, t12, t13, t15, t18, t21, t137, t138, t139, t24, t144, t145, BB, FI2, FW, FT, FA, FB, FC, FD, Fs72⟩, by show twL m l i - (intOf (a.eval (.tmp 145))).toNat < twL m l i - (intOf (Act.eval _ (.tmp 145))).toNat; rw [t145, esk]; show twL m l i - (k + 1) < twL m l i - k; omega⟩
    · rw [decide_eq_false ltk] at t146
      refine wp_cond_false t146 ?_
      refine wp_exit ?_
      first | with_reducible refine exit_in ?_ | with_reducible refine exit_then (exit_in ?_) | with_reducible refine exit_then (exit_then (exit_in ?_)) | refine exit_in ?_ | refine exit_then (exit_in ?_) | refine exit_then (exit_then (exit_in ?_))
      clear t146 esk
      have eki : k = twL m l i := (by omega)
      rw [eki] at FI
      replace FI : (CpI s36 s43 XL20 v43 2 g43 cp43 (twL m l) (xoF (twC f p) (i + 1) 0)) := FI.cg (fun t _ j hj => xo_next hj)
      refine wi_ A (h16_ t1 t2 t3 t7 t10 t12 t13 t15 t18 t21 t137 t138 t139 t24 t144 t145) (rv_ 0 (.int .i64 ((i + 1 : Nat) : Int)) (fun a ee => execAd8 (p := i) (q := 1) rfl (ee _) rfl (by omega)) (rf_ [(139, .int .i64 ((i + 1 : Nat) : Int))] (h12_ t1 t2 t3 t7 t10 t12 t13 t15 t18 t21 t137 t138) ?_))
      rintro a A ⟨t139, -⟩ ⟨t1, t2, t3, t7, t10, t12, t13, t15, t18, t21, t137, t138, -⟩
      exact ⟨⟨i + 1, lti, A, t1, t2, t3, t7, t10, t12, t13, t15, t18, t21, t137, t138, t139, BB, FI, FW, FT, FA, FB, FC, FD, Fs72⟩, by show 2 - (intOf (a.eval (.tmp 139))).toNat < 2 - (intOf (Act.eval _ (.tmp 139))).toNat; rw [t139, esi]; show 2 - (i + 1) < 2 - i; omega⟩
  · rw [decide_eq_false lti] at t140
    refine wp_cond_false t140 ?_
    refine wp_exit ?_
    first | with_reducible refine exit_in ?_ | with_reducible refine exit_then (exit_in ?_) | with_reducible refine exit_then (exit_then (exit_in ?_)) | refine exit_in ?_ | refine exit_then (exit_in ?_) | refine exit_then (exit_then (exit_in ?_))
    clear t140 esi
    clear t137 t138 t139 t12 FI
    refine wp_seq ?_
    refine wp_seq ?_
    refine wi_ A (h9_ t1 t2 t3 t7 t10 t13 t15 t18 t21) (rc_ 2 (same28r (rqF nm f) (rqN m) _ _ XL17 FA.sl FW.sl) (cb_ fun X25_1 bQ => ?_))
    replace FW := (FW.on bQ)
    replace FT := (FT.on bQ)
    replace FA := (FA.on bQ)
    replace FB := (FB.on bQ)
    replace FC := (FC.on bQ)
    replace FD := (FD.on bQ)
    replace Fs72 := (Nat.le_trans Fs72 bQ.size)
    replace BB := BB.trans (bQ.mono BB.size)
    clear bQ
    refine rv_ 3 (.bool false) (fun a ee => execNot8 (b := true) rfl (ee _)) (rc_ 7 (same28r (anF p) (anN l p) _ _ X25_1 FC.sl FT.sl) (cb_ fun X25_2 bQ => ?_))
    replace FW := (FW.on bQ)
    replace FT := (FT.on bQ)
    replace FA := (FA.on bQ)
    replace FB := (FB.on bQ)
    replace FC := (FC.on bQ)
    replace FD := (FD.on bQ)
    replace Fs72 := (Nat.le_trans Fs72 bQ.size)
    replace BB := BB.trans (bQ.mono BB.size)
    clear bQ
    obtain ⟨g171, egg171⟩ : ∃ z_ : Nat, X25_2.heap.size = z_ := ⟨_, rfl⟩
    refine rv_ 8 (.bool false) (fun a ee => execNot8 (b := true) rfl (ee _)) (rs_ 15 (fun a ee => ?_))
    refine stepV rfl (wy rfl rfl rfl (ee _)) (execBsL4 rfl (ee _) (ee _) (ee _) (ee _) FA.shp FB.shp FC.shp FD.shp) ⟨.slice (some ⟨g171, 0, none⟩) 4 4, ⟨_, rfl, by subst egg171; rfl⟩, fun X25_3 hX => ?_⟩
    have bQ : Below X25_2.heap.size X25_2 X25_3 := by subst hX egg171; exact (belNew X25_2 _)
    have FQ : (X25_3.ownsRow s72 23 1 (.slice (some ⟨g171, 0, none⟩) 4 4) 4 (lL (fo4 v49 v57 v64 v72) 4)) := by subst hX egg171; exact ownD_base (own_L4 X25_2 _ _ _ _) Fs72
    replace FW := (FW.on bQ)
    replace FT := (FT.on bQ)
    replace FA := (FA.on bQ)
    replace FB := (FB.on bQ)
    replace FC := (FC.on bQ)
    replace FD := (FD.on bQ)
    replace Fs72 := (Nat.le_trans Fs72 bQ.size)
    replace BB := BB.trans (bQ.mono BB.size)
    clear bQ hX egg171 ee a
    refine rc_ 16 (apart4 FQ FA FB FC FD hp49 hp57 hp64 hp72 Fs72 (rq_len m) (an_len l p)) fun e X25 hh => ?_
    obtain ⟨he, hb⟩ := hh
    refine ⟨_, he, ?_⟩
    obtain ⟨BB, FW, FT, Fs72⟩ : Below X0.heap.size X0 X25 ∧ (RwI (X0.heap.size) (s31) X25 v31 (rqN m) (rqF nm f)) ∧ (RwI (s31) (s36) X25 v36 (anN l p) (anF p)) ∧ (s72 ≤ X25.heap.size) := ⟨(BB).trans (hb.mono (by omega)), (FW.keep fun k _ h2 => hb.block k (by omega)), (FT.keep fun k _ h2 => hb.block k (by omega)), (Nat.le_trans Fs72 hb.size)⟩
    clear FA FB FC FD FQ
    refine rv_ 17 (.bool false) (fun a ee => execNot8 (b := true) rfl (ee _)) (rf_ [(174, .bool false)] (h5_ t1 t2 t3 t7 t10) ?_)
    rintro a A ⟨t174, -⟩ ⟨t1, t2, t3, t7, t10, -⟩
    refine wp_cond_false t174 ?_
    refine wp_skip ?_
    clear t174
    clear Fs72
    refine wp_seq ?_
    refine wi_ A (h5_ t1 t2 t3 t7 t10) (rv_ 0 (.agg (bA 8 nm)) (fun a ee => execLd8 (on9 F3 BB) rfl (ee _)) (rc_ 2 (req28 I nm f m mv X25 hn (FM.on BB) hMz hMl) fun e X27 hh => ?_))
    obtain ⟨⟨v178, s_, he, hk, hz, hq⟩, hb⟩ := hh
    refine ⟨_, he, ?_⟩
    have bQ : Below X25.heap.size X25 X27 := hb
    have FY : (SliceN X27 v178 (rqN m) (rqF nm f)) := hk.sl
    replace FW := (FW.on bQ)
    replace FT := (FT.on bQ)
    replace BB := BB.trans (bQ.mono BB.size)
    clear bQ
    refine rf_ [(13, v178)] (h4_ t2 t3 t7 t10) ?_
    rintro a A ⟨t13, -⟩ ⟨t2, t3, t7, t10, -⟩
    refine wp_seq ?_
    refine wi_ A (h5_ t2 t3 t7 t10 t13) (rc_ 1 (ansr28 I p l pv X27 (FP.on BB) hPz hPl) fun e X28 hh => ?_)
    obtain ⟨⟨v183, s_, he, hk, hz, hq⟩, hb⟩ := hh
    refine ⟨_, he, ?_⟩
    have bQ : Below X27.heap.size X27 X28 := hb
    have FZ : (SliceN X28 v183 (anN l p) (anF p)) := hk.sl
    replace FW := (FW.on bQ)
    replace FT := (FT.on bQ)
    replace FY := (FY.on bQ)
    replace BB := BB.trans (bQ.mono BB.size)
    clear bQ
    refine rf_ [(18, v183)] (h3_ t7 t10 t13) ?_
    rintro a A ⟨t18, -⟩ ⟨t7, t10, t13, -⟩
    refine wp_seq ?_
    refine wi_ A (h4_ t7 t10 t13 t18) (rc_ 2 (same28r (rqF nm f) (rqN m) _ _ X28 FY FW.sl) (cb_ fun X29_1 bQ => ?_))
    replace FW := (FW.on bQ)
    replace FT := (FT.on bQ)
    replace FY := (FY.on bQ)
    replace FZ := (FZ.on bQ)
    replace BB := BB.trans (bQ.mono BB.size)
    clear bQ
    refine rc_ 6 (same28r (anF p) (anN l p) _ _ X29_1 FZ FT.sl) (cb_ fun X29 bQ => ?_)
    replace FW := (FW.on bQ)
    replace FT := (FT.on bQ)
    replace FY := (FY.on bQ)
    replace FZ := (FZ.on bQ)
    replace BB := BB.trans (bQ.mono BB.size)
    clear bQ
    refine rg_ [(6, .bool true)] ?_
    rintro a A ⟨t6, -⟩
    refine wp_ret ?_
    repeat (first | with_reducible refine ret_in ?_ | with_reducible refine ret_then ?_)
    refine bodyPost_ret (results_tmp rfl _ _ _) A.2 ⟨?_, BW.trans (BB.mono BW.size)⟩
    show Ending.returned (a.eval (.tmp 6)) = _
    rw [t6]
end Go.Proofs.Ytcibogmghagpoaa.Dro
