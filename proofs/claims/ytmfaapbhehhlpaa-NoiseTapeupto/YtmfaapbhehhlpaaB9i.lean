import Derived.Test.YtmfaapbhehhlpaaB9h
import Derived.Test.YtmfaapbhehhlpaaB9f
namespace Go.Proofs.Ytmfaapbhehhlpaa.Noi
open Go.RowKit Gf8 Aes By8 Cel Cf Tap Drw Prm Brd
/- Stage 15's NoiseTape. Written by tools/mkB9i.py. -/

section
variable {L K : Nat} {p q r : Nat → Nat} {na nd nm nc nl : Int}
theorem ct_short (h : ¬ 18 ≤ L) : ctE L na nd nm = 2 ∨ ctE L na nd nm = 3 := by
  unfold ctE
  by_cases q : fiN na nd nm
  · rw [if_pos q, if_neg h]; exact Or.inr rfl
  · rw [if_neg q]; exact Or.inl rfl
theorem cl_short (h : ¬ 18 ≤ L) : clE L nc nl = 2 ∨ clE L nc nl = 3 := by
  unfold clE
  by_cases q : 0 ≤ nc ∧ nc ≤ 16 ∧ 0 ≤ nl ∧ nl < 8
  · rw [if_pos q, if_neg h]; exact Or.inr rfl
  · rw [if_neg q]; exact Or.inl rfl
theorem ct_long (h : 18 ≤ L) : ctE L na nd nm ≠ 3 := by
  unfold ctE
  by_cases q : fiN na nd nm
  · rw [if_pos q, if_pos h]; decide
  · rw [if_neg q]; decide
theorem cl_long (h : 18 ≤ L) : clE L nc nl ≠ 3 := by
  unfold clE
  by_cases q : 0 ≤ nc ∧ nc ≤ 16 ∧ 0 ≤ nl ∧ nl < 8
  · rw [if_pos q, if_pos h]; decide
  · rw [if_neg q]; decide
theorem ct_len (h : 18 ≤ L + K) (h2 : 18 ≤ L) : ctE (L + K) na nd nm = ctE L na nd nm := by
  unfold ctE
  rw [if_pos h, if_pos h2]
theorem cl_len2 (h : 18 ≤ L + K) (h2 : 18 ≤ L) : clE (L + K) nc nl = clE L nc nl := by
  unfold clE
  rw [if_pos h, if_pos h2]
theorem ct_two (h0 : p 0 = q 0) (h1 : p 1 = q 1) : ctN p na nd nm = ctN q na nd nm := by
  unfold ctN
  rw [h0, h1]
/-- The tape with more behind it. -/
def pM (p r : Nat → Nat) (L j : Nat) : Nat := if j < L then p j else r (j - L)
theorem pM_in {j : Nat} (h : j < L) : pM p r L j = p j := if_pos h
theorem pM_lo {j : Nat} (h : j < L) : pM p r L (0 + j) = p j := by
  rw [Nat.zero_add]
  exact pM_in h
theorem pM_hi (j : Nat) : pM p r L (0 + L + j) = r j := by
  unfold pM
  rw [if_neg (by omega), show 0 + L + j - L = j by omega]
theorem pM_byte (hp : ∀ j, j < L → p j < 256) (hr : ∀ j, j < K → r j < 256) : ∀ j, j < L + K → pM p r L j < 256 := fun j hj => by
  unfold pM
  by_cases h : j < L
  · rw [if_pos h]; exact hp j h
  · rw [if_neg h]; exact hr _ (by omega)
theorem pM_0 (h : 18 ≤ L) : pM p r L 0 = p 0 := pM_in (by omega)
theorem pM_1 (h : 18 ≤ L) : pM p r L 1 = p 1 := pM_in (by omega)
theorem pM_k {i : Nat} (h : 18 ≤ L) (hi : i < 16) : pM p r L (2 + i) = p (2 + i) := pM_in (by omega)
/-- All behind the second byte changed, up to a place. -/
def xM (f : Nat → Nat) (i j : Nat) : Nat := if 2 ≤ j ∧ j < i then f j ^^^ 60 else f j
theorem xM_2 {f : Nat → Nat} (j : Nat) : xM f 2 j = f j := if_neg (by omega)
theorem xM_at {f : Nat → Nat} {i : Nat} : xM f i i = f i := if_neg (by omega)
theorem xM_set {f : Nat → Nat} {i : Nat} (hi : 2 ≤ i) (l : Nat) : (if l = i then f i ^^^ 60 else xM f i l) = xM f (i + 1) l := by
  unfold xM
  by_cases h : l = i
  · subst h; rw [if_pos rfl, if_pos (by omega)]
  · rw [if_neg h]
    by_cases h2 : 2 ≤ l ∧ l < i
    · rw [if_pos h2, if_pos (by omega)]
    · rw [if_neg h2, if_neg (by omega)]
theorem xM_0 {i : Nat} (h : 18 ≤ L) (_ : 2 ≤ i) : xM (pM p r L) i 0 = p 0 := by
  unfold xM
  rw [if_neg (by omega)]
  exact pM_0 h
theorem xM_1 {i : Nat} (h : 18 ≤ L) (_ : 2 ≤ i) : xM (pM p r L) i 1 = p 1 := by
  unfold xM
  rw [if_neg (by omega)]
  exact pM_1 h
theorem xM_byte {i : Nat} (hp : ∀ j, j < L → p j < 256) (hr : ∀ j, j < K → r j < 256) : ∀ j, j < L + K → xM (pM p r L) i j < 256 := fun j hj => by
  have h1 := pM_byte hp hr j hj
  unfold xM
  by_cases h : 2 ≤ j ∧ j < i
  · rw [if_pos h]; exact Nat.xor_lt_two_pow (n := 8) h1 (by decide)
  · rw [if_neg h]; exact h1
/-- The first eighteen of the tape. -/
def cM (p q : Nat → Nat) (j : Nat) : Nat := if j < 18 then p j else q j
theorem cM_lo {j : Nat} (h : j < 18) : cM p q j = p j := if_pos h
theorem c2_k {i : Nat} (hi : i < 16) : (fun j => if j = 1 then p 1 ^^^ 24 else (fun j => if j = 0 then p 0 ^^^ 129 else cM p q j) j) (2 + i) = p (2 + i) := by
  show (if 2 + i = 1 then p 1 ^^^ 24 else if 2 + i = 0 then p 0 ^^^ 129 else cM p q (2 + i)) = _
  rw [if_neg (by omega), if_neg (by omega)]
  exact cM_lo (by omega)
theorem c2_byte (hp : ∀ j, j < L → p j < 256) (hq : ∀ j, j < L + K → q j < 256) (hL : 18 ≤ L) : ∀ j, j < L + K → (fun j => if j = 1 then p 1 ^^^ 24 else (fun j => if j = 0 then p 0 ^^^ 129 else cM p q j) j) j < 256 := fun j hj => by
  show (if j = 1 then p 1 ^^^ 24 else if j = 0 then p 0 ^^^ 129 else cM p q j) < 256
  by_cases h1 : j = 1
  · rw [if_pos h1]; exact Nat.xor_lt_two_pow (n := 8) (hp 1 (by omega)) (by decide)
  · rw [if_neg h1]
    by_cases h0 : j = 0
    · rw [if_pos h0]; exact Nat.xor_lt_two_pow (n := 8) (hp 0 (by omega)) (by decide)
    · rw [if_neg h0]
      unfold cM
      by_cases h : j < 18
      · rw [if_pos h]; exact hp j (by omega)
      · rw [if_neg h]; exact hq j hj
theorem cl_nat (h : clE L nc nl = 0) : ∃ n l : Nat, nc = ((n : Nat) : Int) ∧ nl = ((l : Nat) : Int) ∧ n ≤ 16 ∧ l ≤ 7 := by
  by_cases q : 0 ≤ nc ∧ nc ≤ 16 ∧ 0 ≤ nl ∧ nl < 8
  · exact ⟨nc.toNat, nl.toNat, by omega, by omega, by omega, by omega⟩
  · unfold clE at h
    rw [if_neg q] at h
    exact absurd h (by decide)
theorem cl_less {n l : Nat} (hn : n ≤ 16) (hl : l ≤ 7) (h : 18 ≤ L + K) : clE (L + K) ((n - 1 : Nat) : Int) ((l : Nat) : Int) = 0 := by
  unfold clE
  rw [if_pos ⟨by omega, by omega, by omega, by omega⟩, if_pos h]
theorem cl_head {l i : Nat} (h : l = 0) : clC p l i 0 = 0 := by
  subst h
  rfl
end
section
variable {W : World} {v : Value} {n : Nat} {y : Nat → Value} {f : Nat → Nat → Nat}
theorem lb_room {a : Option Addr} {c : Nat} (h : LB W v n y f) (e : v = .slice a n c) : n ≤ c := by
  obtain ⟨a', c', e', h1, _⟩ := h.shape
  rw [e] at e'
  injection e' with _ _ e3
  omega
theorem lb_take {a : Option Addr} {c m : Nat} (h : LB W v n y f) (e : v = .slice a n c) (hm : m ≤ n) : LB W (.slice a m c) m y f := by
  obtain ⟨a', c', e', h1, h2⟩ := h.shape
  rw [e] at e'
  injection e' with e1 _ e3
  subst e1 e3
  refine ⟨⟨a, c, rfl, by omega, fun h0 => ?_⟩, fun j hj => h.lists j (by omega)⟩
  obtain ⟨b, o, q1, q2, q3⟩ := h2 (by omega)
  exact ⟨b, o, q1, q2, fun j hj => q3 j (by omega)⟩
theorem shpN {m : Nat} {g : Nat → Nat} (h : SliceN W v m g) : ∃ a c, v = .slice a m c := by
  obtain ⟨a, c, e, _⟩ := h.shape
  exact ⟨a, c, e⟩
theorem head18 {b o c m : Nat} {g : Nat → Nat} (e : v = .slice (some ⟨b, o, none⟩) m c) (h : SliceN W v m g) (hm : 18 ≤ m) : SliceN W (sliced (some ⟨b, o, none⟩) 0 18 c 1) 18 g := by
  subst e
  exact sliceN_cg (SliceN.sub h 0 18 (by omega) hm) (fun j _ => by rw [Nat.zero_add])
end
theorem slice_hL (a : Option Addr) (len cap h : Nat) (h2 : h ≤ cap) (W : World) : (Instr.sliceAt 39 (.slice a len cap) none (some (.int .i64 (h : Int))) none).run Try.prog W = .ok (.slice a h cap) W := by
  have e2 : (h : Int) ≤ cap := by omega
  simp [Instr.sliceAt, Instr.slice, run_underlying Try.underlying39, Instr.sliceBounds, run_sliceBound, h2]
  cases a <;> simp [Addr.add]
theorem execNeUc {o : Oper} {a : Act} {w : World} {x : Operand} {c : Int} (ho : o.op = .binOp .neq 5 x (.const (.int .u8 c)) 5) (hx : a.eval x = .int .u8 c) : (execOp a.eval o).run Try.prog w = .ok (.value (.bool false)) w := by
  have hc : a.eval (.const (.int .u8 c)) = .int .u8 c := rfl
  unfold execOp
  simp only [ho, hx, hc]
  simp [go_sem]
/-- copy of the first eighteen bytes into a row of one's own. -/
theorem stepCopyT {ops : Array Oper} {Q : Exit → Act → World → Prop} {K : Act → World → Prop} {j0 : Nat} {o : Oper} {a : Act} {w : World} {x y : Operand} {B L c g : Nat} {u : Value} {p q : Nat → Nat} (hos : ops[j0]? = some o) (hgd : Region.wanted o (yielded ops a.tmps) = true) (ho : o.op = .call { callee := .builtin .copy, args := #[x, y], argTypes := #[31, 31] })
    (hx : a.eval x = .slice (some ⟨g, 0, none⟩) L c) (hy : a.eval y = u) (own : w.ownsRow B 5 1 (.slice (some ⟨g, 0, none⟩) L c) L (bytesL L q)) (hn : SliceN w u 18 p) (hL : 18 ≤ L)
    (hK : ∀ W', W'.ownsRow B 5 1 (.slice (some ⟨g, 0, none⟩) L c) L (bytesL L (cM p q)) → w.grownBy W' (Value.slice (some ⟨g, 0, none⟩) L c).ownBlock → K (a.put o.dst (.int .i64 ((18 : Nat) : Int))) W') : wpOp Try.prog ops Q j0 K a w := by
  obtain ⟨a2, c2, e2, _, _, h3⟩ := hn.shape
  obtain ⟨b2, o2, e3, _, hcell⟩ := h3 (by omega)
  subst e2 e3
  rcases own.2 with ⟨e, e0⟩ | ⟨g', cap', cur, e, hB, hg, h1, h2, h3, h4⟩
  · cases e
  · injection e with e1 _ e5
    injection e1 with e1
    injection e1 with e1 _ _
    subst e1 e5
    have hl : (bytesL 18 p).length = 18 := bytesL_len _ _
    have h1v : ∀ v ∈ bytesL 18 p, v.oneCell' = true := fun v hv => by
      obtain ⟨i, hi⟩ := List.getElem?_of_mem hv
      have hl2 : i < 18 := by have := (List.getElem?_eq_some_iff.1 hi).1; rw [bytesL_len] at this; exact this
      rw [bytesL_at _ p hl2] at hi
      injection hi with hi
      subst hi
      rfl
    have hrun := run_copy_row Try.prog w 31 31 o.type 5 g 0 L c ⟨b2, o2, none⟩ 18 c2 cur 5 (bytesL 18 p) Try.underlying31 (by kernel_rfl) hg (by rw [hl]; show 18 = Nat.min 18 L; exact (Nat.min_eq_left hL).symm) (fun j v hv => by
      have hj : j < 18 := by have := (List.getElem?_eq_some_iff.1 hv).1; rw [bytesL_len] at this; exact this
      rw [bytesL_at _ p hj] at hv
      rw [Go.WideShapes.add_plain, hcell j (by omega)]
      exact hv) (by rw [hl]; omega) h1v
    refine stepV hos hgd (v := .int .i64 ((18 : Nat) : Int)) (w' := w.setRow g (cur.toList.take 0 ++ bytesL 18 p ++ cur.toList.drop (0 + (bytesL 18 p).length)).toArray) ?_ (hK _ ?_ ?_)
    · unfold execOp
      simp only [ho, resolve, invoke, builtin, Sem.run_bind, Sem.run_pure, Result.andThen_ok, List.map_toArray, List.map_cons, List.map_nil, hx, hy, hrun, hl]
      rfl
    · refine ⟨by rw [bytesL_len, Nat.mul_one], Or.inr ⟨g, c, _, rfl, hB, setRow_heap _ _ _ _ _ _ hg, h1, h2, ?_, ?_⟩⟩
      · simp [hl]
        omega
      · apply List.ext_getElem?
        intro j
        by_cases hj : j < L
        · rw [bytesL_at L _ hj, List.getElem?_take_of_lt (by omega), hl, Nat.zero_add]
          simp only [List.take_zero, List.nil_append]
          unfold cM
          by_cases q1 : j < 18
          · rw [List.getElem?_append_left (by omega), bytesL_at _ p q1, if_pos q1]
          · rw [List.getElem?_append_right (by omega), hl, List.getElem?_drop, show 18 + (j - 18) = j by omega, if_neg q1]
            have h5 : (cur.toList.take (L * 1))[j]? = (bytesL L q)[j]? := by rw [h4]
            rw [List.getElem?_take_of_lt (by omega), bytesL_at L q hj] at h5
            exact h5
        · rw [List.getElem?_eq_none (by rw [List.length_take]; omega), List.getElem?_eq_none (by rw [bytesL_len]; omega)]
    · exact ⟨rfl, rfl, rfl, by simp [World.setRow], fun k _ hk => setRow_other w g k _ (fun e => hk (by rw [e]; rfl))⟩
set_option maxRecDepth 100000 in
set_option maxHeartbeats 4000000 in
/-- NoiseTape. -/
theorem tape15 (I : Impl) (p : Nat → Nat) (L : Nat) (na nd nm nc nl : Int) (pv : Value) (V : World) (FP : SliceN V pv L p) (hl : L ≤ 140737488351232) (hz : ∀ l c, pv = .slice none l c → c = 0) (hna : I64 na) (hnd : I64 nd) (hnm : I64 nm) (hnc : I64 nc) (hnl : I64 nl) (r : Nat → Nat) (K : Nat) (mv : Value) (FM : SliceN V mv K r) (hzm : ∀ l c, mv = .slice none l c → c = 0) (hlk : L + K ≤ 140737488351232) :
    Calls Try.prog 7 #[.agg (anC pv na nd nm nc nl), mv] V fun e w' => e = .returned (.bool true) ∧ Below V.heap.size V w' := by
  go_enter Try.func7, Try.ntmps7
  refine wo_ 255 [(0, .agg (anC pv na nd nm nc nl)), (1, mv)] ?_
  rintro a A ⟨t0, t1, -⟩
  have BW : Below V.heap.size V V := Below.refl _ _
  refine wp_seq ?_
  obtain ⟨gq, eggq⟩ : ∃ z_ : Nat, V.heap.size = z_ := ⟨_, rfl⟩
  refine wi_ A (h2_ t0 t1) (rs_ 0 (fun a ee => ?_))
  refine stepV rfl rfl (execBoxAn rfl (ee _)) ⟨.pointer (some ⟨gq, 0, none⟩), ⟨_, rfl, by subst eggq; rfl⟩, fun X0 hX => ?_⟩
  have bQ : Below V.heap.size V X0 := by subst hX eggq; exact (belNew V _)
  have FQ : (X0.heap[gq]? = some (.cells (anC pv na nd nm nc nl) 33)) := by subst hX eggq; exact heapNew V _
  have bX := bQ
  clear bQ hX eggq ee a
  refine rf_ [(2, .pointer (some ⟨gq, 0, none⟩))] (h1_ t1) ?_
  rintro a A ⟨t2, -⟩ ⟨t1, -⟩
  replace FP := (FP.on bX)
  replace FM := (FM.on bX)
  have ZX0 := bX.size
  replace BW := BW.trans (bX.mono BW.size)
  clear bX
  refine wp_seq ?_
  refine wp_seq ?_
  refine wi_ A (h2_ t1 t2) (rc_ 0 (awake15 I X0) (cb_ fun X1 bQ => ?_))
  have bX := bQ
  clear bQ
  refine rv_ 1 (.bool false) (fun a ee => execNot8 (b := true) rfl (ee _)) (rf_ [(18, .bool false)] (h2_ t1 t2) ?_)
  rintro a A ⟨t18, -⟩ ⟨t1, t2, -⟩
  replace FP := (FP.on bX)
  replace FM := (FM.on bX)
  replace FQ := (on9 FQ bX)
  have ZX1 := bX.size
  replace BW := BW.trans (bX.mono BW.size)
  clear bX
  refine wp_cond_false t18 ?_
  refine wp_skip ?_
  clear t18
  refine wp_seq ?_
  refine wi_ A (h2_ t1 t2) (rv_ 0 (.pointer (some ⟨gq, 0, none⟩)) (fun a ee => execFldAn (k := 0) rfl (ee _) rfl) (rv_ 1 (pv) (fun a ee => execLdL rfl (ee _) (an_at0 FQ)) (rv_ 2 (.pointer (some ⟨gq, 1, none⟩)) (fun a ee => execFldAn (k := 1) rfl (ee _) rfl) (rv_ 3 (.int .i64 na) (fun a ee => execLd3 rfl (ee _) (an_at1 FQ)) (rv_ 4 (.pointer (some ⟨gq, 2, none⟩)) (fun a ee => execFldAn (k := 2) rfl (ee _) rfl) (rv_ 5 (.int .i64 nd) (fun a ee => execLd3 rfl (ee _) (an_at2 FQ)) (rv_ 6 (.pointer (some ⟨gq, 3, none⟩)) (fun a ee => execFldAn (k := 3) rfl (ee _) rfl) (rv_ 7 (.int .i64 nm) (fun a ee => execLd3 rfl (ee _) (an_at3 FQ)) (rc_ 8 (I.count p L na nd nm _ X1 FP (by omega) hna hnd hnm) (cb_ fun X3 bQ => ?_))))))))))
  have bX := bQ
  clear bQ
  refine rf_ [(5, .int .i64 ((zl (ctE L na nd nm) (ctN p na nd nm) : Nat) : Int)), (6, .int .i64 ((ctE L na nd nm : Nat) : Int))] (h2_ t1 t2) ?_
  rintro a A ⟨t5, t6, -⟩ ⟨t1, t2, -⟩
  replace FP := (FP.on bX)
  replace FM := (FM.on bX)
  replace FQ := (on9 FQ bX)
  have ZX3 := bX.size
  replace BW := BW.trans (bX.mono BW.size)
  clear bX
  refine wp_seq ?_
  refine wi_ A (h4_ t1 t2 t5 t6) (rv_ 0 (.pointer (some ⟨gq, 0, none⟩)) (fun a ee => execFldAn (k := 0) rfl (ee _) rfl) (rv_ 1 (pv) (fun a ee => execLdL rfl (ee _) (an_at0 FQ)) (rv_ 2 (.pointer (some ⟨gq, 4, none⟩)) (fun a ee => execFldAn (k := 4) rfl (ee _) rfl) (rv_ 3 (.int .i64 nc) (fun a ee => execLd3 rfl (ee _) (an_at4 FQ)) (rv_ 4 (.pointer (some ⟨gq, 5, none⟩)) (fun a ee => execFldAn (k := 5) rfl (ee _) rfl) (rv_ 5 (.int .i64 nl) (fun a ee => execLd3 rfl (ee _) (an_at5 FQ)) (rc_ 6 (I.cells p L nc nl _ X3 FP (by omega) hnc hnl) fun e X4 hh => ?_)))))))
  obtain ⟨v38, y38, he, hk1, hk2, hb⟩ := hh
  refine ⟨_, he, ?_⟩
  have bQ : Below X3.heap.size X3 X4 := hb
  have Fv38 : (LB X4 v38 (zl (clE L nc nl) (nc).toNat) y38 (clC p (nl).toNat)) := lb_of hk1 hk2 (fun t ht => cl_byte (FP).bytes ht)
  have bX := bQ
  clear bQ
  refine rf_ [(7, v38), (8, .int .i64 ((clE L nc nl : Nat) : Int))] (h4_ t1 t2 t5 t6) ?_
  rintro a A ⟨t7, t8, -⟩ ⟨t1, t2, t5, t6, -⟩
  replace FP := (FP.on bX)
  replace FM := (FM.on bX)
  replace FQ := (on9 FQ bX)
  have ZX4 := bX.size
  replace BW := BW.trans (bX.mono BW.size)
  clear bX
  refine wp_seq ?_
  refine wp_seq ?_
  by_cases hL18 : 18 ≤ L
  · refine wi_ A (h6_ t1 t2 t5 t6 t7 t8) (rv_ 0 (.pointer (some ⟨gq, 0, none⟩)) (fun a ee => execFldAn (k := 0) rfl (ee _) rfl) (rv_ 1 (pv) (fun a ee => execLdL rfl (ee _) (an_at0 FQ)) (rv_ 2 (.int .i64 ((L : Nat) : Int)) (fun a ee => execLenV (len := L) rfl (ee _) (shp9 FP)) (rv_ 3 (.bool false) (fun a ee => execDec (execLtW (p := L) (q := 18) rfl (ee _) rfl) (decide_eq_false (by omega))) (rf_ [(44, .bool false)] (h6_ t1 t2 t5 t6 t7 t8) ?_)))))
    rintro a A ⟨t44, -⟩ ⟨t1, t2, t5, t6, t7, t8, -⟩
    refine wp_cond_false t44 ?_
    refine wp_skip ?_
    clear t44
    have hc3 : ctE L na nd nm ≠ 3 := ct_long hL18
    have hl3 : clE L nc nl ≠ 3 := cl_long hL18
    have hce2 : ctE (L + K) na nd nm = ctE L na nd nm := ct_len (by omega) hL18
    have hle2 : clE (L + K) nc nl = clE L nc nl := cl_len2 (by omega) hL18
    have hpb : ∀ j, j < L → p j < 256 := FP.bytes
    have hrb : ∀ j, j < K → r j < 256 := FM.bytes
    have hn16 : zl (clE L nc nl) nc.toNat ≤ 16 := cl_len
    have BB : Below X4.heap.size X4 X4 := Below.refl _ _
    refine wp_seq ?_
    obtain ⟨g76, egg76⟩ : ∃ z_ : Nat, X4.heap.size = z_ := ⟨_, rfl⟩
    refine wi_ A (h6_ t1 t2 t5 t6 t7 t8) (rs_ 0 (fun a ee => ?_))
    refine stepV rfl rfl (execBs0 rfl) ⟨.slice (some ⟨g76, 0, none⟩) 0 0, ⟨_, rfl, by subst egg76; rfl⟩, fun X7_1 hX => ?_⟩
    have bQ : Below X4.heap.size X4 X7_1 := by subst hX egg76; exact (belNew X4 _)
    have F76 : (X7_1.ownsRow X4.heap.size 5 1 (.slice (some ⟨g76, 0, none⟩) 0 0) (0) (bytesL (0) (pM p r L))) := by subst hX egg76; exact own_base (own_none X4 _) (BB).size
    replace BB := BB.trans (bQ.mono BB.size)
    clear bQ hX egg76 ee a
    refine rv_ 1 (.pointer (some ⟨gq, 0, none⟩)) (fun a ee => execFldAn (k := 0) rfl (ee _) rfl) (rv_ 2 (pv) (fun a ee => execLdL rfl (ee _) (an_at0 (on9 FQ BB))) (rs_ 3 (fun a ee => ?_)))
    refine stepAppN (n := 0) (m := L) (p := pM p r L) rfl rfl rfl (ee _) (ee _) F76 (sliceN_cg (FP.on BB) (fun j hj => (pM_lo hj).symm)) hz (by omega) (BB).size fun v79 X7_2 own' gr => ⟨_, ⟨_, rfl, rfl⟩, eqw ?_⟩
    obtain ⟨BB, F79⟩ : Below X4.heap.size X4 X7_2 ∧ (X7_2.ownsRow X4.heap.size 5 1 v79 (0 + L) (bytesL (0 + L) (pM p r L))) := ⟨(BB).grown gr (BB).size (fun k hk => (F76.lt k hk).1), own'⟩
    clear F76 ee a
    refine rs_ 5 (fun a ee => ?_)
    refine stepAppN (n := 0 + L) (m := K) (p := pM p r L) rfl rfl rfl (ee _) (ee _) F79 (sliceN_cg (FM.on BB) (fun j _ => (pM_hi j).symm)) hzm (by omega) (BB).size fun v81 X7 own' gr => ⟨_, ⟨_, rfl, rfl⟩, eqw ?_⟩
    obtain ⟨BB, F81⟩ : Below X4.heap.size X4 X7 ∧ (X7.ownsRow X4.heap.size 5 1 v81 (0 + L + K) (bytesL (0 + L + K) (pM p r L))) := ⟨(BB).grown gr (BB).size (fun k hk => (F79.lt k hk).1), own'⟩
    clear F79 ee a
    refine rf_ [(9, v81)] (h5_ t2 t5 t6 t7 t8) ?_
    rintro a A ⟨t9, -⟩ ⟨t2, t5, t6, t7, t8, -⟩
    rw [Nat.zero_add] at F81
    obtain ⟨gp, cp, epp, hgp, -⟩ := ownL_some9 F81 (by omega)
    subst epp
    have FO := F81
    clear F81
    refine wp_seq ?_
    refine wi_ A (h6_ t2 t5 t6 t7 t8 t9) (rv_ 1 (.pointer (some ⟨gq, 1, none⟩)) (fun a ee => execFldAn (k := 1) rfl (ee _) rfl) (rv_ 2 (.int .i64 na) (fun a ee => execLd3 rfl (ee _) (an_at1 (on9 FQ BB))) (rv_ 3 (.pointer (some ⟨gq, 2, none⟩)) (fun a ee => execFldAn (k := 2) rfl (ee _) rfl) (rv_ 4 (.int .i64 nd) (fun a ee => execLd3 rfl (ee _) (an_at2 (on9 FQ BB))) (rv_ 5 (.pointer (some ⟨gq, 3, none⟩)) (fun a ee => execFldAn (k := 3) rfl (ee _) rfl) (rv_ 6 (.int .i64 nm) (fun a ee => execLd3 rfl (ee _) (an_at3 (on9 FQ BB))) (rc_ 7 (I.count (pM p r L) (L + K) na nd nm _ X7 (own_slice FO (pM_byte hpb hrb)) (by omega) hna hnd hnm) (cb_ fun X8 bQ => ?_))))))))
    replace FO := (ownsRow_below FO bQ)
    replace BB := BB.trans (bQ.mono BB.size)
    clear bQ
    refine rf_ [(10, .int .i64 ((zl (ctE (L + K) na nd nm) (ctN (pM p r L) na nd nm) : Nat) : Int)), (11, .int .i64 ((ctE (L + K) na nd nm : Nat) : Int))] (h6_ t2 t5 t6 t7 t8 t9) ?_
    rintro a A ⟨t10, t11, -⟩ ⟨t2, t5, t6, t7, t8, t9, -⟩
    rw [hce2, ct_two (p := pM p r L) (q := p) (pM_0 hL18) (pM_1 hL18)] at t10
    rw [hce2] at t11
    refine wp_seq ?_
    refine wi_ A (h8_ t2 t5 t6 t7 t8 t9 t10 t11) (rv_ 1 (.pointer (some ⟨gq, 4, none⟩)) (fun a ee => execFldAn (k := 4) rfl (ee _) rfl) (rv_ 2 (.int .i64 nc) (fun a ee => execLd3 rfl (ee _) (an_at4 (on9 FQ BB))) (rv_ 3 (.pointer (some ⟨gq, 5, none⟩)) (fun a ee => execFldAn (k := 5) rfl (ee _) rfl) (rv_ 4 (.int .i64 nl) (fun a ee => execLd3 rfl (ee _) (an_at5 (on9 FQ BB))) (rc_ 5 (I.cells (pM p r L) (L + K) nc nl _ X8 (own_slice FO (pM_byte hpb hrb)) (by omega) hnc hnl) fun e X9 hh => ?_)))))
    obtain ⟨v99, y99, he, hk1, hk2, hb⟩ := hh
    refine ⟨_, he, ?_⟩
    have bQ : Below X8.heap.size X8 X9 := hb
    have Fv99 : (LB X9 v99 (zl (clE (L + K) nc nl) (nc).toNat) y99 (clC (pM p r L) (nl).toNat)) := lb_of hk1 hk2 (fun t ht => cl_byte ((own_slice FO (pM_byte hpb hrb))).bytes ht)
    replace FO := (ownsRow_below FO bQ)
    replace BB := BB.trans (bQ.mono BB.size)
    clear bQ
    refine rf_ [(12, v99), (13, .int .i64 ((clE (L + K) nc nl : Nat) : Int))] (h8_ t2 t5 t6 t7 t8 t9 t10 t11) ?_
    rintro a A ⟨t12, t13, -⟩ ⟨t2, t5, t6, t7, t8, t9, t10, t11, -⟩
    rw [hle2] at t13
    rw [hle2, cl_key (p := pM p r L) (q := p) (fun i hi => pM_k hL18 hi)] at Fv99
    refine wp_seq ?_
    refine wp_seq ?_
    refine wi_ A (h10_ t2 t5 t6 t7 t8 t9 t10 t11 t12 t13) (rv_ 2 (.bool false) (fun a ee => execDec (execNeN (p := zl (ctE L na nd nm) (ctN p na nd nm)) (q := zl (ctE L na nd nm) (ctN p na nd nm)) rfl (ee _) (ee _)) (decide_eq_false (by omega))) (rv_ 6 (.bool false) (fun a ee => execDec (execNeE (p := ctE L na nd nm) (q := ctE L na nd nm) rfl (ee _) (ee _)) (decide_eq_false (by omega))) (rv_ 11 (.bool false) (fun a ee => execDec (execNeE (p := clE L nc nl) (q := clE L nc nl) rfl (ee _) (ee _)) (decide_eq_false (by omega))) (rc_ 16 (alike15 _ _ _ _ (zl (clE L nc nl) nc.toNat) _ _ X9 (Fv38.on BB) Fv99 (fun _ _ _ _ => rfl) (by omega)) (cb_ fun X10 bQ => ?_)))))
    replace FO := (ownsRow_below FO bQ)
    replace Fv99 := (Fv99.on bQ)
    replace BB := BB.trans (bQ.mono BB.size)
    clear bQ
    refine rv_ 17 (.bool false) (fun a ee => execNot8 (b := true) rfl (ee _)) (rv_ 21 (.bool false) (fun a ee => execDec (execEqE (p := ctE L na nd nm) (q := 3) rfl (ee _) rfl) (decide_eq_false (by omega))) (rv_ 25 (.bool false) (fun a ee => execDec (execEqE (p := clE L nc nl) (q := 3) rfl (ee _) rfl) (decide_eq_false (by omega))) (rf_ [(128, .bool false)] (h6_ t2 t5 t6 t7 t8 t9) ?_)))
    rintro a A ⟨t128, -⟩ ⟨t2, t5, t6, t7, t8, t9, -⟩
    refine wp_cond_false t128 ?_
    refine wp_skip ?_
    clear t128
    clear Fv99
    refine wp_seq ?_
    refine wp_seq ?_
    refine wi_ A (h6_ t2 t5 t6 t7 t8 t9) (rf_ [(14, .int .i64 ((2 : Nat) : Int))] (h6_ t2 t5 t6 t7 t8 t9) ?_)
    rintro a A ⟨t14, -⟩ ⟨t2, t5, t6, t7, t8, t9, -⟩
    have FO0 : (X10.ownsRow X4.heap.size 5 1 (.slice (some ⟨gp, 0, none⟩) (L + K) cp) (L + K) (bytesL (L + K) (xM (pM p r L) 2))) := by rw [bytesL_congr (f := xM (pM p r L) 2) (g := pM p r L) (fun j _ => xM_2 j)]; exact FO
    clear FO
    have FO := FO0
    clear FO0
    have hLK2 : 2 ≤ L + K := by omega
    refine wp_block ?_
    refine wp_loop (fun a W => ∃ (i : Nat), i ≤ L + K ∧ (2 ≤ i) ∧ (a.tmps.size = 255 ∧ a.defers = []) ∧ a.eval (.tmp 2) = .pointer (some ⟨gq, 0, none⟩) ∧ a.eval (.tmp 5) = .int .i64 ((zl (ctE L na nd nm) (ctN p na nd nm) : Nat) : Int) ∧ a.eval (.tmp 6) = .int .i64 ((ctE L na nd nm : Nat) : Int) ∧ a.eval (.tmp 7) = v38 ∧ a.eval (.tmp 8) = .int .i64 ((clE L nc nl : Nat) : Int) ∧ a.eval (.tmp 9) = .slice (some ⟨gp, 0, none⟩) (L + K) cp ∧ a.eval (.tmp 14) = .int .i64 ((i : Nat) : Int) ∧ Below X4.heap.size X4 W ∧ (W.ownsRow X4.heap.size 5 1 (.slice (some ⟨gp, 0, none⟩) (L + K) cp) (L + K) (bytesL (L + K) (xM (pM p r L) i)))) (fun a _ => L + K - (intOf (a.eval (.tmp 14))).toNat) ⟨2, hLK2, Nat.le_refl _, A, t2, t5, t6, t7, t8, t9, t14, BB, FO⟩ ?_
    clear A t2 t5 t6 t7 t8 t9 t14 BB FO a
    rintro a XL13 ⟨i, hi, hi2, A, t2, t5, t6, t7, t8, t9, t14, BB, FO⟩
    have esi := t14
    refine wp_seq ?_
    refine wp_seq ?_
    refine wi_ A (h7_ t2 t5 t6 t7 t8 t9 t14) (rv_ 2 (.int .i64 ((L + K : Nat) : Int)) (fun a ee => execLenV (len := L + K) rfl (ee _) ⟨_, _, rfl⟩) (rv_ 3 (.bool (decide (i < L + K))) (fun a ee => execLtW (p := i) (q := L + K) rfl (ee _) (ee _)) (rf_ [(132, .bool (decide (i < L + K)))] (h7_ t2 t5 t6 t7 t8 t9 t14) ?_)))
    rintro a A ⟨t132, -⟩ ⟨t2, t5, t6, t7, t8, t9, t14, -⟩
    by_cases lti : i < L + K
    · rw [decide_eq_true lti] at t132
      refine wp_cond_true t132 ?_
      refine wp_skip ?_
      clear t132
      refine wp_seq ?_
      refine wp_block ?_
      refine wi_ A (h7_ t2 t5 t6 t7 t8 t9 t14) (rv_ 2 (.pointer (some ⟨gp, 0 + i, none⟩)) (fun a ee => execIdxB9 (k := i) rfl ((ee _).trans rfl) (ee _) lti) (rv_ 3 (.int .u8 ((pM p r L i : Nat) : Int)) (fun a ee => execLdB rfl (ee _) ((own_cell15 FO lti).1.trans (by rw [xM_at]))) (rv_ 4 (.int .u8 ((pM p r L i ^^^ 60 : Nat) : Int)) (fun a ee => execXor5 rfl (ee _) rfl (pM_byte hpb hrb i lti) (by decide)) (rv_ 5 (.pointer (some ⟨gp, 0 + i, none⟩)) (fun a ee => execIdxB9 (k := i) rfl ((ee _).trans rfl) (ee _) lti) (rs_ 6 (fun a ee => ?_))))))
      obtain ⟨hc_, hf_⟩ := own_cell15 FO lti
      refine stepS rfl rfl (execStB rfl (ee _) (ee _) hc_ hf_) ⟨_, ⟨_, rfl, rfl⟩, fun X15 hX => ?_⟩
      obtain ⟨BB, FO2⟩ : Below X4.heap.size X4 X15 ∧ (X15.ownsRow X4.heap.size 5 1 (.slice (some ⟨gp, 0, none⟩) (L + K) cp) (L + K) (bytesL (L + K) (xM (pM p r L) (i + 1)))) := by subst hX; exact ⟨(BB).setCell hgp _, (by rw [Nat.zero_add, ← bytesL_congr (fun l _ => xM_set hi2 l)]; exact own_set8 _ FO)⟩
      clear FO hX ee a
      refine rf_ [] (h7_ t2 t5 t6 t7 t8 t9 t14) ?_
      rintro a A - ⟨t2, t5, t6, t7, t8, t9, t14, -⟩
      refine wi_ A (h7_ t2 t5 t6 t7 t8 t9 t14) (rv_ 1 (.int .i64 ((i + 1 : Nat) : Int)) (fun a ee => execAd8 (p := i) (q := 1) rfl (ee _) rfl (by omega)) (rf_ [(14, .int .i64 ((i + 1 : Nat) : Int))] (h6_ t2 t5 t6 t7 t8 t9) ?_))
      rintro a A ⟨t14, -⟩ ⟨t2, t5, t6, t7, t8, t9, -⟩
      exact ⟨⟨i + 1, lti, Nat.le_succ_of_le hi2, A, t2, t5, t6, t7, t8, t9, t14, BB, FO2⟩, by show L + K - (intOf (a.eval (.tmp 14))).toNat < L + K - (intOf (Act.eval _ (.tmp 14))).toNat; rw [t14, esi]; show L + K - (i + 1) < L + K - i; omega⟩
    · rw [decide_eq_false lti] at t132
      refine wp_cond_false t132 ?_
      refine wp_exit ?_
      first | with_reducible refine exit_in ?_ | with_reducible refine exit_then (exit_in ?_) | with_reducible refine exit_then (exit_then (exit_in ?_)) | refine exit_in ?_ | refine exit_then (exit_in ?_) | refine exit_then (exit_then (exit_in ?_))
      clear t132 esi
      clear t14
      obtain ⟨q2, eq2⟩ : ∃ q2, xM (pM p r L) i = q2 := ⟨_, rfl⟩
      have hq0 : q2 0 = p 0 := by rw [← eq2]; exact xM_0 hL18 hi2
      have hq1 : q2 1 = p 1 := by rw [← eq2]; exact xM_1 hL18 hi2
      have hqb : ∀ j, j < L + K → q2 j < 256 := by rw [← eq2]; exact xM_byte hpb hrb
      rw [eq2] at FO
      refine wp_seq ?_
      refine wi_ A (h6_ t2 t5 t6 t7 t8 t9) (rv_ 1 (.pointer (some ⟨gq, 1, none⟩)) (fun a ee => execFldAn (k := 1) rfl (ee _) rfl) (rv_ 2 (.int .i64 na) (fun a ee => execLd3 rfl (ee _) (an_at1 (on9 FQ BB))) (rv_ 3 (.pointer (some ⟨gq, 2, none⟩)) (fun a ee => execFldAn (k := 2) rfl (ee _) rfl) (rv_ 4 (.int .i64 nd) (fun a ee => execLd3 rfl (ee _) (an_at2 (on9 FQ BB))) (rv_ 5 (.pointer (some ⟨gq, 3, none⟩)) (fun a ee => execFldAn (k := 3) rfl (ee _) rfl) (rv_ 6 (.int .i64 nm) (fun a ee => execLd3 rfl (ee _) (an_at3 (on9 FQ BB))) (rc_ 7 (I.count q2 (L + K) na nd nm _ XL13 (own_slice FO hqb) (by omega) hna hnd hnm) (cb_ fun X16 bQ => ?_))))))))
      replace FO := (ownsRow_below FO bQ)
      replace BB := BB.trans (bQ.mono BB.size)
      clear bQ
      refine rf_ [(10, .int .i64 ((zl (ctE (L + K) na nd nm) (ctN q2 na nd nm) : Nat) : Int)), (11, .int .i64 ((ctE (L + K) na nd nm : Nat) : Int))] (h6_ t2 t5 t6 t7 t8 t9) ?_
      rintro a A ⟨t10, t11, -⟩ ⟨t2, t5, t6, t7, t8, t9, -⟩
      rw [hce2, ct_two (p := q2) (q := p) hq0 hq1] at t10
      rw [hce2] at t11
      refine wp_seq ?_
      refine wp_seq ?_
      refine wi_ A (h8_ t2 t5 t6 t7 t8 t9 t10 t11) (rv_ 2 (.bool false) (fun a ee => execDec (execNeN (p := zl (ctE L na nd nm) (ctN p na nd nm)) (q := zl (ctE L na nd nm) (ctN p na nd nm)) rfl (ee _) (ee _)) (decide_eq_false (by omega))) (rv_ 6 (.bool false) (fun a ee => execDec (execNeE (p := ctE L na nd nm) (q := ctE L na nd nm) rfl (ee _) (ee _)) (decide_eq_false (by omega))) (rf_ [(159, .bool false)] (h4_ t2 t7 t8 t9) ?_)))
      rintro a A ⟨t159, -⟩ ⟨t2, t7, t8, t9, -⟩
      refine wp_cond_false t159 ?_
      refine wp_skip ?_
      clear t159
      obtain ⟨pb, po, pc, epv, hpc⟩ := sz_some FP (show 0 < L by omega)
      refine wp_seq ?_
      refine wi_ A (h4_ t2 t7 t8 t9) (rv_ 1 (.pointer (some ⟨gq, 0, none⟩)) (fun a ee => execFldAn (k := 0) rfl (ee _) rfl) (rv_ 2 (pv) (fun a ee => execLdL rfl (ee _) (an_at0 (on9 FQ BB))) (rv_ 3 (sliced (some ⟨pb, po, none⟩) 0 18 pc 1) (fun a ee => By8.execSlH rfl ((ee _).trans epv) rfl (By8.slice_h (some ⟨pb, po, none⟩) L pc 18 (by omega) X16)) (rs_ 4 (fun a ee => ?_)))))
      refine stepCopyT rfl rfl rfl (ee _) (ee _) FO (head18 epv (FP.on BB) hL18) (by omega) fun X19 own' gr => ⟨_, ⟨_, rfl, rfl⟩, eqw ?_⟩
      obtain ⟨BB, FO2⟩ : Below X4.heap.size X4 X19 ∧ (X19.ownsRow X4.heap.size 5 1 (.slice (some ⟨gp, 0, none⟩) (L + K) cp) (L + K) (bytesL (L + K) (cM p q2))) := ⟨(BB).grown gr (BB).size (fun k hk => (FO.lt k hk).1), own'⟩
      clear FO
      refine rf_ [] (h4_ t2 t7 t8 t9) ?_
      rintro a A - ⟨t2, t7, t8, t9, -⟩
      have hp0 := hpb 0 (by omega)
      have hp1 := hpb 1 (by omega)
      refine wp_seq ?_
      refine wj_ [0, 1, 2, 3, 4, 5, 6, 7, 8, 9, 10, 11, 12, 13] [11, 13] [4, 8] [11, 13] A (h4_ t2 t7 t8 t9) (fun X20_0 bD => ?_)
      refine dw_ 3 (.pointer (some ⟨gp, 0 + 0, none⟩)) (fun a X ee => execIdxB9 (k := 0) rfl ((ee _).trans rfl) rfl (by omega)) (dv_ 4 (.int .u8 ((p 0 : Nat) : Int)) (fun a X ee hb => execLdB rfl (ee _) ((own_cell15 (ownsRow_below FO2 hb) (show 0 < L + K by omega)).1.trans (by rw [cM_lo (by decide)]))) (dw_ 5 (.int .u8 ((p 0 ^^^ 129 : Nat) : Int)) (fun a X ee => execXor5 rfl (ee _) rfl hp0 (by decide)) (dw_ 7 (.pointer (some ⟨gp, 0 + 1, none⟩)) (fun a X ee => execIdxB9 (k := 1) rfl ((ee _).trans rfl) rfl (by omega)) (dv_ 8 (.int .u8 ((p 1 : Nat) : Int)) (fun a X ee hb => execLdB rfl (ee _) ((own_cell15 (ownsRow_below FO2 hb) (show 1 < L + K by omega)).1.trans (by rw [cM_lo (by decide)]))) (dw_ 9 (.int .u8 ((p 1 ^^^ 24 : Nat) : Int)) (fun a X ee => execXor5 rfl (ee _) rfl hp1 (by decide)) (dw_ 10 (.pointer (some ⟨gp, 0 + 0, none⟩)) (fun a X ee => execIdxB9 (k := 0) rfl ((ee _).trans rfl) rfl (by omega)) (ds_ 11 (fun a ee => ?_))))))))
      obtain ⟨hc_, hf_⟩ := own_cell15 (ownsRow_below FO2 bD) (show 0 < L + K by omega)
      refine stepS rfl rfl (execStB rfl (ee _) (ee _) hc_ hf_) ⟨_, ⟨_, rfl, rfl⟩, fun X20_1 hX => ?_⟩
      obtain ⟨BB, FO3⟩ : Below X4.heap.size X4 X20_1 ∧ (X20_1.ownsRow X4.heap.size 5 1 (.slice (some ⟨gp, 0, none⟩) (L + K) cp) (L + K) (bytesL (L + K) (fun j => if j = 0 then p 0 ^^^ 129 else cM p q2 j))) := by subst hX; exact ⟨((BB.trans (bD.mono BB.size))).setCell hgp _, (own_set8 (m := 0) (p 0 ^^^ 129) (ownsRow_below FO2 bD))⟩
      clear bD FO2 hX ee a
      refine ⟨Or.inl rfl, ?_⟩
      refine dw_ 12 (.pointer (some ⟨gp, 0 + 1, none⟩)) (fun a X ee => execIdxB9 (k := 1) rfl ((ee _).trans rfl) rfl (by omega)) (ds_ 13 (fun a ee => ?_))
      obtain ⟨hc_, hf_⟩ := own_cell15 FO3 (show 1 < L + K by omega)
      refine stepS rfl rfl (execStB rfl (ee _) (ee _) hc_ hf_) ⟨_, ⟨_, rfl, rfl⟩, fun X20 hX => ?_⟩
      obtain ⟨BB, FO4⟩ : Below X4.heap.size X4 X20 ∧ (X20.ownsRow X4.heap.size 5 1 (.slice (some ⟨gp, 0, none⟩) (L + K) cp) (L + K) (bytesL (L + K) (fun j => if j = 1 then p 1 ^^^ 24 else (fun j => if j = 0 then p 0 ^^^ 129 else cM p q2 j) j))) := by subst hX; exact ⟨(BB).setCell hgp _, (own_set8 (m := 1) (p 1 ^^^ 24) FO3)⟩
      clear FO3 hX ee a
      refine ⟨Or.inl rfl, ?_⟩
      refine dz_ [] (h4_ t2 t7 t8 t9) ?_
      rintro a A - ⟨t2, t7, t8, t9, -⟩
      obtain ⟨q3, eq3⟩ : ∃ q3, (fun j => if j = 1 then p 1 ^^^ 24 else (fun j => if j = 0 then p 0 ^^^ 129 else cM p q2 j) j) = q3 := ⟨_, rfl⟩
      have hq3 : ∀ i, i < 16 → q3 (2 + i) = p (2 + i) := fun i hi => by rw [← eq3]; exact c2_k hi
      have hqb3 : ∀ j, j < L + K → q3 j < 256 := by rw [← eq3]; exact c2_byte hpb hqb hL18
      rw [eq3] at FO4
      have FO := FO4
      clear FO4
      refine wp_seq ?_
      refine wi_ A (h4_ t2 t7 t8 t9) (rv_ 1 (.pointer (some ⟨gq, 4, none⟩)) (fun a ee => execFldAn (k := 4) rfl (ee _) rfl) (rv_ 2 (.int .i64 nc) (fun a ee => execLd3 rfl (ee _) (an_at4 (on9 FQ BB))) (rv_ 3 (.pointer (some ⟨gq, 5, none⟩)) (fun a ee => execFldAn (k := 5) rfl (ee _) rfl) (rv_ 4 (.int .i64 nl) (fun a ee => execLd3 rfl (ee _) (an_at5 (on9 FQ BB))) (rc_ 5 (I.cells q3 (L + K) nc nl _ X20 (own_slice FO hqb3) (by omega) hnc hnl) fun e X21 hh => ?_)))))
      obtain ⟨v183, y183, he, hk1, hk2, hb⟩ := hh
      refine ⟨_, he, ?_⟩
      have bQ : Below X20.heap.size X20 X21 := hb
      have Fv183 : (LB X21 v183 (zl (clE (L + K) nc nl) (nc).toNat) y183 (clC q3 (nl).toNat)) := lb_of hk1 hk2 (fun t ht => cl_byte ((own_slice FO hqb3)).bytes ht)
      replace FO := (ownsRow_below FO bQ)
      replace BB := BB.trans (bQ.mono BB.size)
      clear bQ
      refine rf_ [(12, v183), (13, .int .i64 ((clE (L + K) nc nl : Nat) : Int))] (h4_ t2 t7 t8 t9) ?_
      rintro a A ⟨t12, t13, -⟩ ⟨t2, t7, t8, t9, -⟩
      rw [hle2] at t13
      rw [hle2, cl_key (p := q3) (q := p) hq3] at Fv183
      refine wp_seq ?_
      refine wp_seq ?_
      refine wi_ A (h6_ t2 t7 t8 t9 t12 t13) (rv_ 2 (.bool false) (fun a ee => execDec (execNeE (p := clE L nc nl) (q := clE L nc nl) rfl (ee _) (ee _)) (decide_eq_false (by omega))) (rc_ 6 (alike15 _ _ _ _ (zl (clE L nc nl) nc.toNat) _ _ X21 (Fv38.on BB) Fv183 (fun _ _ _ _ => rfl) (by omega)) (cb_ fun X22 bQ => ?_)))
      replace FO := (ownsRow_below FO bQ)
      replace Fv183 := (Fv183.on bQ)
      replace BB := BB.trans (bQ.mono BB.size)
      clear bQ
      refine rv_ 7 (.bool false) (fun a ee => execNot8 (b := true) rfl (ee _)) (rf_ [(194, .bool false)] (h4_ t2 t7 t8 t9) ?_)
      rintro a A ⟨t194, -⟩ ⟨t2, t7, t8, t9, -⟩
      refine wp_cond_false t194 ?_
      refine wp_skip ?_
      clear t194
      clear Fv183
      refine wp_seq ?_
      refine wp_seq ?_
      by_cases hL0 : clE L nc nl = 0
      · obtain ⟨n, l, hnc2, hnl2, hnn, hll⟩ := cl_nat hL0
        subst hnc2 hnl2
        rw [hL0] at t8
        rw [hL0, zl_ok] at Fv38
        replace Fv38 : LB X4 v38 n y38 (clC p l) := Fv38
        by_cases hn0 : n = 0
        · refine wi_ A (h4_ t2 t7 t8 t9) (rv_ 1 (.bool false) (fun a ee => execDec (execNeE (p := 0) (q := 0) rfl (ee _) rfl) (decide_eq_false (by decide))) (rv_ 3 (.pointer (some ⟨gq, 4, none⟩)) (fun a ee => execFldAn (k := 4) rfl (ee _) rfl) (rv_ 4 (.int .i64 ((n : Nat) : Int)) (fun a ee => execLd3 rfl (ee _) (an_at4 (on9 FQ BB))) (rv_ 5 (.bool true) (fun a ee => execDec (execEqN (p := n) (q := 0) rfl (ee _) rfl) (decide_eq_true (by omega))) (rf_ [(201, .bool true)] (h1_ t7) ?_)))))
          rintro a A ⟨t201, -⟩ ⟨t7, -⟩
          refine wp_cond_true t201 ?_
          clear t201
          refine wp_seq ?_
          refine wi_ A (h1_ t7) (rv_ 1 (.int .i64 ((n : Nat) : Int)) (fun a ee => execLenLs (len := n) rfl (ee _) (Fv38.on BB).shp) (rv_ 2 (.bool true) (fun a ee => execDec (execEqN (p := n) (q := 0) rfl (ee _) rfl) (decide_eq_true (by omega))) (rg_ [(4, .bool true)] ?_)))
          rintro a A ⟨t4, -⟩
          have BW2 := BW.trans (BB.mono BW.size)
          refine wp_ret ?_
          repeat (first | with_reducible refine ret_in ?_ | with_reducible refine ret_then ?_)
          refine bodyPost_ret (results_tmp rfl _ _ _) A.2 ⟨?_, BW2⟩
          show Ending.returned (a.eval (.tmp 4)) = _
          rw [t4]
        · refine wi_ A (h4_ t2 t7 t8 t9) (rv_ 1 (.bool false) (fun a ee => execDec (execNeE (p := 0) (q := 0) rfl (ee _) rfl) (decide_eq_false (by decide))) (rv_ 3 (.pointer (some ⟨gq, 4, none⟩)) (fun a ee => execFldAn (k := 4) rfl (ee _) rfl) (rv_ 4 (.int .i64 ((n : Nat) : Int)) (fun a ee => execLd3 rfl (ee _) (an_at4 (on9 FQ BB))) (rv_ 5 (.bool false) (fun a ee => execDec (execEqN (p := n) (q := 0) rfl (ee _) rfl) (decide_eq_false (by omega))) (rf_ [(201, .bool false)] (h3_ t2 t7 t9) ?_)))))
          rintro a A ⟨t201, -⟩ ⟨t2, t7, t9, -⟩
          refine wp_cond_false t201 ?_
          refine wp_skip ?_
          clear t201
          have hle1 : clE (L + K) ((n - 1 : Nat) : Int) ((l : Nat) : Int) = 0 := cl_less hnn hll (by omega)
          refine wp_seq ?_
          refine wi_ A (h3_ t2 t7 t9) (rv_ 1 (.pointer (some ⟨gq, 4, none⟩)) (fun a ee => execFldAn (k := 4) rfl (ee _) rfl) (rv_ 2 (.int .i64 ((n : Nat) : Int)) (fun a ee => execLd3 rfl (ee _) (an_at4 (on9 FQ BB))) (rv_ 3 (.int .i64 ((n - 1 : Nat) : Int)) (fun a ee => By8.execSubI (p := n) (q := 1) rfl (ee _) rfl (by omega) (by omega)) (rv_ 4 (.pointer (some ⟨gq, 5, none⟩)) (fun a ee => execFldAn (k := 5) rfl (ee _) rfl) (rv_ 5 (.int .i64 ((l : Nat) : Int)) (fun a ee => execLd3 rfl (ee _) (an_at5 (on9 FQ BB))) (rc_ 6 (I.cells q3 (L + K) ((n - 1 : Nat) : Int) ((l : Nat) : Int) _ X22 (own_slice FO hqb3) (by omega) ⟨by omega, by omega⟩ hnl) fun e X26 hh => ?_))))))
          obtain ⟨v212, y212, he, hk1, hk2, hb⟩ := hh
          refine ⟨_, he, ?_⟩
          have bQ : Below X22.heap.size X22 X26 := hb
          have Fv212 : (LB X26 v212 (zl (clE (L + K) ((n - 1 : Nat) : Int) ((l : Nat) : Int)) (((n - 1 : Nat) : Int)).toNat) y212 (clC q3 (((l : Nat) : Int)).toNat)) := lb_of hk1 hk2 (fun t ht => cl_byte ((own_slice FO hqb3)).bytes ht)
          replace FO := (ownsRow_below FO bQ)
          replace BB := BB.trans (bQ.mono BB.size)
          clear bQ
          refine rf_ [(12, v212), (13, .int .i64 ((clE (L + K) ((n - 1 : Nat) : Int) ((l : Nat) : Int) : Nat) : Int))] (h3_ t2 t7 t9) ?_
          rintro a A ⟨t12, t13, -⟩ ⟨t2, t7, t9, -⟩
          rw [hle1] at t13
          rw [hle1, zl_ok] at Fv212
          replace Fv212 : LB X26 v212 (n - 1) y212 (clC p l) := by have h_ := Fv212; rw [show clC q3 ((l : Nat) : Int).toNat = clC p l from cl_key (p := q3) (q := p) hq3] at h_; exact h_
          obtain ⟨lb, lo, lc, elv, hlb, hlcc⟩ := Fv38.at (show 0 < n by omega)
          have hlc2 : n ≤ lc := lb_room Fv38 elv
          refine wp_seq ?_
          refine wp_seq ?_
          refine wi_ A (h5_ t2 t7 t9 t12 t13) (rv_ 1 (.bool false) (fun a ee => execDec (execNeE (p := 0) (q := 0) rfl (ee _) rfl) (decide_eq_false (by decide))) (rv_ 4 (.int .i64 ((n : Nat) : Int)) (fun a ee => execLenLs (len := n) rfl (ee _) (Fv38.on BB).shp) (rv_ 5 (.pointer (some ⟨gq, 4, none⟩)) (fun a ee => execFldAn (k := 4) rfl (ee _) rfl) (rv_ 6 (.int .i64 ((n : Nat) : Int)) (fun a ee => execLd3 rfl (ee _) (an_at4 (on9 FQ BB))) (rv_ 7 (.bool false) (fun a ee => execDec (execNeN (p := n) (q := n) rfl (ee _) (ee _)) (decide_eq_false (by omega))) (rv_ 12 (.pointer (some ⟨gq, 4, none⟩)) (fun a ee => execFldAn (k := 4) rfl (ee _) rfl) (rv_ 13 (.int .i64 ((n : Nat) : Int)) (fun a ee => execLd3 rfl (ee _) (an_at4 (on9 FQ BB))) (rv_ 14 (.int .i64 ((n - 1 : Nat) : Int)) (fun a ee => By8.execSubI (p := n) (q := 1) rfl (ee _) rfl (by omega) (by omega)) (rv_ 15 (.slice (some ⟨lb, lo, none⟩) (n - 1) lc) (fun a ee => By8.execSlH rfl ((ee _).trans elv) (ee _) (slice_hL (some ⟨lb, lo, none⟩) n lc (n - 1) (by omega) X26)) (rc_ 16 (alike15 _ _ _ _ (n - 1) _ _ X26 Fv212 (lb_take (Fv38.on BB) elv (by omega)) (fun _ _ _ _ => rfl) (by omega)) (cb_ fun X27 bQ => ?_)))))))))))
          replace FO := (ownsRow_below FO bQ)
          replace Fv212 := (Fv212.on bQ)
          replace BB := BB.trans (bQ.mono BB.size)
          clear bQ
          refine rv_ 17 (.bool false) (fun a ee => execNot8 (b := true) rfl (ee _)) (rf_ [(233, .bool false)] (h2_ t2 t7) ?_)
          rintro a A ⟨t233, -⟩ ⟨t2, t7, -⟩
          refine wp_cond_false t233 ?_
          refine wp_skip ?_
          clear t233
          clear Fv212 FO
          refine wp_seq ?_
          refine wp_seq ?_
          refine wi_ A (h2_ t2 t7) (rv_ 1 (.int .i64 ((n : Nat) : Int)) (fun a ee => execLenLs (len := n) rfl (ee _) (Fv38.on BB).shp) (rf_ [(234, v38), (235, .int .i64 ((n : Nat) : Int)), (236, .int .i64 ((0 : Nat) : Int))] (h1_ t2) ?_))
          rintro a A ⟨t234, t235, t236, -⟩ ⟨t2, -⟩
          refine wp_block ?_
          refine wp_loop (fun a W => ∃ (i : Nat), i ≤ n ∧ (a.tmps.size = 255 ∧ a.defers = []) ∧ a.eval (.tmp 2) = .pointer (some ⟨gq, 0, none⟩) ∧ a.eval (.tmp 234) = v38 ∧ a.eval (.tmp 235) = .int .i64 ((n : Nat) : Int) ∧ a.eval (.tmp 236) = .int .i64 ((i : Nat) : Int) ∧ Below X4.heap.size X4 W) (fun a _ => n - (intOf (a.eval (.tmp 236))).toNat) ⟨0, Nat.zero_le _, A, t2, t234, t235, t236, BB⟩ ?_
          clear A t2 t234 t235 t236 BB a
          rintro a XL30 ⟨i, hi, A, t2, t234, t235, t236, BB⟩
          have esi := t236
          refine wp_seq ?_
          refine wi_ A (h4_ t2 t234 t235 t236) (rv_ 0 (.bool (decide (i < n))) (fun a ee => execLtW (p := i) (q := n) rfl (ee _) (ee _)) (rf_ [(237, .bool (decide (i < n)))] (h4_ t2 t234 t235 t236) ?_))
          rintro a A ⟨t237, -⟩ ⟨t2, t234, t235, t236, -⟩
          refine wp_seq ?_
          by_cases lti : i < n
          · rw [decide_eq_true lti] at t237
            refine wp_cond_true t237 ?_
            refine wp_skip ?_
            clear t237
            refine wp_seq ?_
            refine wp_block ?_
            have cV : ∀ X, Below X4.heap.size X4 X → X.cell? ⟨lb, lo + i, none⟩ = some (y38 i) := fun X hX => by rw [cell_below hX hlb]; exact hlcc i lti
            refine wp_seq ?_
            refine wi_ A (h4_ t2 t234 t235 t236) (rv_ 0 (.pointer (some ⟨lb, lo + i, none⟩)) (fun a ee => Cf.execIdxL (k := i) rfl ((ee _).trans elv) (ee _) lti) (rv_ 1 (y38 i) (fun a ee => execLdL rfl (ee _) (cV XL30 BB)) (rf_ [(16, y38 i)] (h4_ t2 t234 t235 t236) ?_)))
            rintro a A ⟨t16, -⟩ ⟨t2, t234, t235, t236, -⟩
            have hci := Fv38.lists i lti
            refine wp_seq ?_
            by_cases hl0 : l = 0
            · obtain ⟨cb, co, cc, ecv, hcb, hcc⟩ := open_slB hci (by omega)
              have cC : ∀ X, Below X4.heap.size X4 X → X.cell? ⟨cb, co + 0, none⟩ = some (.int .u8 0) := fun X hX => by rw [cell_below hX hcb, hcc 0 (by omega), cl_head hl0]; rfl
              refine wi_ A (h5_ t2 t234 t235 t16 t236) (rv_ 1 (.int .i64 ((320 : Nat) : Int)) (fun a ee => execLenV (len := 320) rfl (ee _) (shpN (hci.on BB))) (rv_ 2 (.bool false) (fun a ee => execDec (execNeN (p := 320) (q := 320) rfl (ee _) rfl) (decide_eq_false (by decide))) (rv_ 4 (.pointer (some ⟨gq, 5, none⟩)) (fun a ee => execFldAn (k := 5) rfl (ee _) rfl) (rv_ 5 (.int .i64 ((l : Nat) : Int)) (fun a ee => execLd3 rfl (ee _) (an_at5 (on9 FQ BB))) (rv_ 6 (.bool true) (fun a ee => execDec (execEqN (p := l) (q := 0) rfl (ee _) rfl) (decide_eq_true (by omega))) (rv_ 9 (.pointer (some ⟨cb, co + 0, none⟩)) (fun a ee => execIdxB9 (k := 0) rfl ((ee _).trans ecv) rfl (by decide)) (rv_ 10 (.int .u8 0) (fun a ee => execLdB rfl (ee _) (cC XL30 BB)) (rv_ 11 (.bool false) (fun a ee => execNeUc (c := 0) rfl (ee _)) (rf_ [(253, .bool false)] (h4_ t2 t234 t235 t236) ?_)))))))))
              rintro a A ⟨t253, -⟩ ⟨t2, t234, t235, t236, -⟩
              refine wp_cond_false t253 ?_
              refine wp_skip ?_
              clear t253
              refine wi_ A (h4_ t2 t234 t235 t236) (rv_ 0 (.int .i64 ((i + 1 : Nat) : Int)) (fun a ee => execAd8 (p := i) (q := 1) rfl (ee _) rfl (by omega)) (rf_ [(236, .int .i64 ((i + 1 : Nat) : Int))] (h3_ t2 t234 t235) ?_))
              rintro a A ⟨t236, -⟩ ⟨t2, t234, t235, -⟩
              exact ⟨⟨i + 1, lti, A, t2, t234, t235, t236, BB⟩, by show n - (intOf (a.eval (.tmp 236))).toNat < n - (intOf (Act.eval _ (.tmp 236))).toNat; rw [t236, esi]; show n - (i + 1) < n - i; omega⟩
            · refine wi_ A (h5_ t2 t234 t235 t16 t236) (rv_ 1 (.int .i64 ((320 : Nat) : Int)) (fun a ee => execLenV (len := 320) rfl (ee _) (shpN (hci.on BB))) (rv_ 2 (.bool false) (fun a ee => execDec (execNeN (p := 320) (q := 320) rfl (ee _) rfl) (decide_eq_false (by decide))) (rv_ 4 (.pointer (some ⟨gq, 5, none⟩)) (fun a ee => execFldAn (k := 5) rfl (ee _) rfl) (rv_ 5 (.int .i64 ((l : Nat) : Int)) (fun a ee => execLd3 rfl (ee _) (an_at5 (on9 FQ BB))) (rv_ 6 (.bool false) (fun a ee => execDec (execEqN (p := l) (q := 0) rfl (ee _) rfl) (decide_eq_false (by omega))) (rf_ [(253, .bool false)] (h4_ t2 t234 t235 t236) ?_))))))
              rintro a A ⟨t253, -⟩ ⟨t2, t234, t235, t236, -⟩
              refine wp_cond_false t253 ?_
              refine wp_skip ?_
              clear t253
              refine wi_ A (h4_ t2 t234 t235 t236) (rv_ 0 (.int .i64 ((i + 1 : Nat) : Int)) (fun a ee => execAd8 (p := i) (q := 1) rfl (ee _) rfl (by omega)) (rf_ [(236, .int .i64 ((i + 1 : Nat) : Int))] (h3_ t2 t234 t235) ?_))
              rintro a A ⟨t236, -⟩ ⟨t2, t234, t235, -⟩
              exact ⟨⟨i + 1, lti, A, t2, t234, t235, t236, BB⟩, by show n - (intOf (a.eval (.tmp 236))).toNat < n - (intOf (Act.eval _ (.tmp 236))).toNat; rw [t236, esi]; show n - (i + 1) < n - i; omega⟩
          · rw [decide_eq_false lti] at t237
            refine wp_cond_false t237 ?_
            refine wp_exit ?_
            first | with_reducible refine exit_in ?_ | with_reducible refine exit_then (exit_in ?_) | with_reducible refine exit_then (exit_then (exit_in ?_)) | refine exit_in ?_ | refine exit_then (exit_in ?_) | refine exit_then (exit_then (exit_in ?_))
            clear t237 esi
            clear t2 t234 t235 t236
            have BW2 := BW.trans (BB.mono BW.size)
            refine wp_seq ?_
            refine wi_ A h0_ (rg_ [(4, .bool true)] ?_)
            rintro a A ⟨t4, -⟩
            refine wp_ret ?_
            refine bodyPost_ret (results_tmp rfl _ _ _) A.2 ⟨?_, BW2⟩
            show Ending.returned (a.eval (.tmp 4)) = _
            rw [t4]
      · refine wi_ A (h4_ t2 t7 t8 t9) (rv_ 1 (.bool true) (fun a ee => execDec (execNeE (p := clE L nc nl) (q := 0) rfl (ee _) rfl) (decide_eq_true (by omega))) (rf_ [(201, .bool true)] (h1_ t7) ?_))
        rintro a A ⟨t201, -⟩ ⟨t7, -⟩
        refine wp_cond_true t201 ?_
        clear t201
        refine wp_seq ?_
        rw [zl_no hL0] at Fv38
        refine wi_ A (h1_ t7) (rv_ 1 (.int .i64 ((0 : Nat) : Int)) (fun a ee => execLenLs (len := 0) rfl (ee _) (Fv38.on BB).shp) (rv_ 2 (.bool true) (fun a ee => execDec (execEqN (p := 0) (q := 0) rfl (ee _) rfl) (decide_eq_true (by decide))) (rg_ [(4, .bool true)] ?_)))
        rintro a A ⟨t4, -⟩
        have BW2 := BW.trans (BB.mono BW.size)
        refine wp_ret ?_
        repeat (first | with_reducible refine ret_in ?_ | with_reducible refine ret_then ?_)
        refine bodyPost_ret (results_tmp rfl _ _ _) A.2 ⟨?_, BW2⟩
        show Ending.returned (a.eval (.tmp 4)) = _
        rw [t4]
  · refine wi_ A (h6_ t1 t2 t5 t6 t7 t8) (rv_ 0 (.pointer (some ⟨gq, 0, none⟩)) (fun a ee => execFldAn (k := 0) rfl (ee _) rfl) (rv_ 1 (pv) (fun a ee => execLdL rfl (ee _) (an_at0 FQ)) (rv_ 2 (.int .i64 ((L : Nat) : Int)) (fun a ee => execLenV (len := L) rfl (ee _) (shp9 FP)) (rv_ 3 (.bool true) (fun a ee => execDec (execLtW (p := L) (q := 18) rfl (ee _) rfl) (decide_eq_true (by omega))) (rf_ [(44, .bool true)] (h6_ t1 t2 t5 t6 t7 t8) ?_)))))
    rintro a A ⟨t44, -⟩ ⟨t1, t2, t5, t6, t7, t8, -⟩
    refine wp_cond_true t44 ?_
    clear t44
    refine wp_seq ?_
    have hce4 : ctE L na nd nm = 2 ∨ ctE L na nd nm = 3 := ct_short hL18
    have hle4 : clE L nc nl = 2 ∨ clE L nc nl = 3 := cl_short hL18
    rcases hce4 with hce | hce
    · rcases hle4 with hle | hle
      · rw [hce, zl_no (by decide)] at t5
        rw [hce] at t6
        rw [hle] at t8
        rw [hle, zl_no (by decide)] at Fv38
        refine wi_ A (h6_ t1 t2 t5 t6 t7 t8) (rv_ 1 (.bool true) (fun a ee => execDec (execNeE (p := 2) (q := 0) rfl (ee _) rfl) (decide_eq_true (by decide))) (rv_ 4 (.bool true) (fun a ee => execDec (execNeE (p := 2) (q := 0) rfl (ee _) rfl) (decide_eq_true (by decide))) (rv_ 8 (.bool true) (fun a ee => execDec (execEqE (p := 2) (q := 2) rfl (ee _) rfl) (decide_eq_true (by decide))) (rv_ 16 (.bool true) (fun a ee => execDec (execEqE (p := 2) (q := 2) rfl (ee _) rfl) (decide_eq_true (by decide))) (rv_ 24 (.bool true) (fun a ee => execDec (execEqN (p := 0) (q := 0) rfl (ee _) rfl) (decide_eq_true (by decide))) (rv_ 28 (.int .i64 ((0 : Nat) : Int)) (fun a ee => execLenLs (len := 0) rfl (ee _) Fv38.shp) (rv_ 29 (.bool true) (fun a ee => execDec (execEqN (p := 0) (q := 0) rfl (ee _) rfl) (decide_eq_true (by decide))) (rg_ [(4, .bool true)] ?_))))))))
        rintro a A ⟨t4, -⟩
        refine wp_ret ?_
        repeat (first | with_reducible refine ret_in ?_ | with_reducible refine ret_then ?_)
        refine bodyPost_ret (results_tmp rfl _ _ _) A.2 ⟨?_, BW⟩
        show Ending.returned (a.eval (.tmp 4)) = _
        rw [t4]
      · rw [hce, zl_no (by decide)] at t5
        rw [hce] at t6
        rw [hle] at t8
        rw [hle, zl_no (by decide)] at Fv38
        refine wi_ A (h6_ t1 t2 t5 t6 t7 t8) (rv_ 1 (.bool true) (fun a ee => execDec (execNeE (p := 2) (q := 0) rfl (ee _) rfl) (decide_eq_true (by decide))) (rv_ 4 (.bool true) (fun a ee => execDec (execNeE (p := 3) (q := 0) rfl (ee _) rfl) (decide_eq_true (by decide))) (rv_ 8 (.bool true) (fun a ee => execDec (execEqE (p := 2) (q := 2) rfl (ee _) rfl) (decide_eq_true (by decide))) (rv_ 16 (.bool false) (fun a ee => execDec (execEqE (p := 3) (q := 2) rfl (ee _) rfl) (decide_eq_false (by decide))) (rv_ 19 (.bool true) (fun a ee => execDec (execEqE (p := 3) (q := 3) rfl (ee _) rfl) (decide_eq_true (by decide))) (rv_ 24 (.bool true) (fun a ee => execDec (execEqN (p := 0) (q := 0) rfl (ee _) rfl) (decide_eq_true (by decide))) (rv_ 28 (.int .i64 ((0 : Nat) : Int)) (fun a ee => execLenLs (len := 0) rfl (ee _) Fv38.shp) (rv_ 29 (.bool true) (fun a ee => execDec (execEqN (p := 0) (q := 0) rfl (ee _) rfl) (decide_eq_true (by decide))) (rg_ [(4, .bool true)] ?_)))))))))
        rintro a A ⟨t4, -⟩
        refine wp_ret ?_
        repeat (first | with_reducible refine ret_in ?_ | with_reducible refine ret_then ?_)
        refine bodyPost_ret (results_tmp rfl _ _ _) A.2 ⟨?_, BW⟩
        show Ending.returned (a.eval (.tmp 4)) = _
        rw [t4]
    · rcases hle4 with hle | hle
      · rw [hce, zl_no (by decide)] at t5
        rw [hce] at t6
        rw [hle] at t8
        rw [hle, zl_no (by decide)] at Fv38
        refine wi_ A (h6_ t1 t2 t5 t6 t7 t8) (rv_ 1 (.bool true) (fun a ee => execDec (execNeE (p := 3) (q := 0) rfl (ee _) rfl) (decide_eq_true (by decide))) (rv_ 4 (.bool true) (fun a ee => execDec (execNeE (p := 2) (q := 0) rfl (ee _) rfl) (decide_eq_true (by decide))) (rv_ 8 (.bool false) (fun a ee => execDec (execEqE (p := 3) (q := 2) rfl (ee _) rfl) (decide_eq_false (by decide))) (rv_ 11 (.bool true) (fun a ee => execDec (execEqE (p := 3) (q := 3) rfl (ee _) rfl) (decide_eq_true (by decide))) (rv_ 16 (.bool true) (fun a ee => execDec (execEqE (p := 2) (q := 2) rfl (ee _) rfl) (decide_eq_true (by decide))) (rv_ 24 (.bool true) (fun a ee => execDec (execEqN (p := 0) (q := 0) rfl (ee _) rfl) (decide_eq_true (by decide))) (rv_ 28 (.int .i64 ((0 : Nat) : Int)) (fun a ee => execLenLs (len := 0) rfl (ee _) Fv38.shp) (rv_ 29 (.bool true) (fun a ee => execDec (execEqN (p := 0) (q := 0) rfl (ee _) rfl) (decide_eq_true (by decide))) (rg_ [(4, .bool true)] ?_)))))))))
        rintro a A ⟨t4, -⟩
        refine wp_ret ?_
        repeat (first | with_reducible refine ret_in ?_ | with_reducible refine ret_then ?_)
        refine bodyPost_ret (results_tmp rfl _ _ _) A.2 ⟨?_, BW⟩
        show Ending.returned (a.eval (.tmp 4)) = _
        rw [t4]
      · rw [hce, zl_no (by decide)] at t5
        rw [hce] at t6
        rw [hle] at t8
        rw [hle, zl_no (by decide)] at Fv38
        refine wi_ A (h6_ t1 t2 t5 t6 t7 t8) (rv_ 1 (.bool true) (fun a ee => execDec (execNeE (p := 3) (q := 0) rfl (ee _) rfl) (decide_eq_true (by decide))) (rv_ 4 (.bool true) (fun a ee => execDec (execNeE (p := 3) (q := 0) rfl (ee _) rfl) (decide_eq_true (by decide))) (rv_ 8 (.bool false) (fun a ee => execDec (execEqE (p := 3) (q := 2) rfl (ee _) rfl) (decide_eq_false (by decide))) (rv_ 11 (.bool true) (fun a ee => execDec (execEqE (p := 3) (q := 3) rfl (ee _) rfl) (decide_eq_true (by decide))) (rv_ 16 (.bool false) (fun a ee => execDec (execEqE (p := 3) (q := 2) rfl (ee _) rfl) (decide_eq_false (by decide))) (rv_ 19 (.bool true) (fun a ee => execDec (execEqE (p := 3) (q := 3) rfl (ee _) rfl) (decide_eq_true (by decide))) (rv_ 24 (.bool true) (fun a ee => execDec (execEqN (p := 0) (q := 0) rfl (ee _) rfl) (decide_eq_true (by decide))) (rv_ 28 (.int .i64 ((0 : Nat) : Int)) (fun a ee => execLenLs (len := 0) rfl (ee _) Fv38.shp) (rv_ 29 (.bool true) (fun a ee => execDec (execEqN (p := 0) (q := 0) rfl (ee _) rfl) (decide_eq_true (by decide))) (rg_ [(4, .bool true)] ?_))))))))))
        rintro a A ⟨t4, -⟩
        refine wp_ret ?_
        repeat (first | with_reducible refine ret_in ?_ | with_reducible refine ret_then ?_)
        refine bodyPost_ret (results_tmp rfl _ _ _) A.2 ⟨?_, BW⟩
        show Ending.returned (a.eval (.tmp 4)) = _
        rw [t4]
end Go.Proofs.Ytmfaapbhehhlpaa.Noi
