import Derived.Test.YtmfaapbhehhlpaaB9v
import Derived.Test.YtmfaapbhehhlpaaZ2
import Derived.Test.YtmfaapbhehhlpaaC6
import Derived.Test.YtmfaapbhehhlpaaV9q
namespace Go.Proofs.Ytmfaapbhehhlpaa.Noi
open Go.RowKit Gf8 Aes By8 Cel Cf Tap Drw Prm
/- Package noise as it landed: sizeOf, cellOf, Cells. Written by tools/mkB9w.py. -/

theorem sz_any {l : Nat} (h : 1 ≤ l) : 48 + 34 * l = szC l := by rw [sz_pos h]; omega
section
variable {o : Oper} {a : Act} {w : World}
theorem execB16 (ho : o.op = .build 55 #[]) : (execOp a.eval o).run Try.prog w = .ok (.value (.agg (bA 16 (be 0)))) w := by
  have h := zero16
  rw [show bA 16 (be 0) = bA 16 (fun _ => 0) from bA_congr fun k _ => be_0 k]
  unfold execOp
  simp only [ho]
  simp [go_sem, h]
theorem execArr16 {x : Operand} {ad : Option Addr} {n c : Nat} (ho : o.op = .sliceToArrayPointer 55 x) (hx : a.eval x = .slice ad n c) (hn : 16 ≤ n) : (execOp a.eval o).run Try.prog w = .ok (.value (.pointer ad)) w := by
  have e : ¬ n < 16 := by omega
  unfold execOp
  simp only [ho, hx]
  simp [Instr.arrayAt, run_underlying Try.underlying55, e]
theorem execLd16M {x : Operand} {b f : Nat} {q : Nat → Nat} (ho : o.op = .load 55 x) (hx : a.eval x = .pointer (some ⟨b, f, none⟩)) (hg : ∀ j, j < 16 → w.cell? ⟨b, f + j, none⟩ = some (.int .u8 ((q j : Nat) : Int))) : (execOp a.eval o).run Try.prog w = .ok (.value (.agg (bA 16 q))) w := by
  refine Aes.execLoadMid (P := Try.prog) (cs := bytesL 16 q) ho hx ?_ Try.underlying55 rfl (by rw [bytesL_len]; kernel_rfl)
  intro j v hj
  have hk : j < 16 := by have := (List.getElem?_eq_some_iff.1 hj).1; rwa [bytesL_len] at this
  rw [bytesL_at 16 _ hk] at hj
  rw [← hj]
  exact hg j hk
theorem execLenLB {x : Operand} {v : Value} {len : Nat} (ho : o.op = .call { callee := .builtin .len, args := #[x], argTypes := #[39] }) (hx : a.eval x = v) (hv : ∃ ao c, v = .slice ao len c) : (execOp a.eval o).run Try.prog w = .ok (.value (.int .i64 (len : Int))) w := by
  obtain ⟨ao, c, rfl⟩ := hv
  unfold execOp
  simp only [ho, resolve, invoke, builtin, Sem.run_bind, Sem.run_pure, Result.andThen_ok, List.map_toArray, List.map_cons, List.map_nil, hx]
  simp [go_sem]
theorem execIdxLB {x i : Operand} {g off n cap k : Nat} (ho : o.op = .indexAddr 39 x i) (hx : a.eval x = .slice (some ⟨g, off, none⟩) n cap) (hi : a.eval i = .int .i64 (k : Int)) (hk : k < n) : (execOp a.eval o).run Try.prog w = .ok (.value (.pointer (some ⟨g, off + k, none⟩))) w := by
  have h1 : (k : Int) < n := by omega
  unfold execOp
  simp only [ho, hx, hi]
  simp [go_sem, h1]
end
theorem own_mkLB (W : World) (n : Nat) (hn : n ≤ 1000000) : (W.alloc (.cells (madeCells #[.slice none 0 0] n) 31)).ownsRow W.heap.size 31 1 (.slice (some ⟨W.heap.size, 0, none⟩) n n) n (lL (fun _ => .slice none 0 0) n) := by
  refine ⟨by rw [lL_len, Nat.mul_one], Or.inr ⟨_, _, _, rfl, Nat.le_refl _, heapNew W _, Nat.le_refl _, by unfold maxLen; omega, by simp [madeCells], ?_⟩⟩
  apply List.ext_getElem?
  intro j
  by_cases h : j < n
  · rw [lL_get _ _ _ h]
    simp [madeCells, h, Nat.mod_one]
  · rw [List.getElem?_eq_none (by simp; omega), List.getElem?_eq_none (by rw [lL_len]; omega)]
theorem ownL_setB {W : World} {B n g cap k t : Nat} {y : Nat → Value} {z : Value} (h : W.ownsRow B t 1 (.slice (some ⟨g, 0, none⟩) n cap) n (lL y n)) : (W.setCell ⟨g, 0 + k, none⟩ z).ownsRow B t 1 (.slice (some ⟨g, 0, none⟩) n cap) n (lL (updX y k z) n) := by
  rw [Nat.zero_add]
  refine ⟨by rw [lL_len, Nat.mul_one], ?_⟩
  rcases h.2 with ⟨e, _⟩ | ⟨g', cap', cur, e, hB, hg, h1, h2, h3, h4⟩
  · cases e
  · injection e with e1 e2 e3
    injection e1 with e1
    injection e1 with e1 _ _
    subst e1
    subst e3
    refine Or.inr ⟨g, cap, cur.setIfInBounds k z, rfl, hB, heap4 _ hg, h1, h2, by simpa using h3, ?_⟩
    apply List.ext_getElem?
    intro j
    have h5 : (cur.toList.take (n * 1))[j]? = (lL y n)[j]? := by rw [h4]
    by_cases hj : j < n
    · rw [List.getElem?_take_of_lt (by omega), lL_get _ _ _ hj] at h5
      rw [List.getElem?_take_of_lt (by omega), lL_get _ _ _ hj, Array.getElem?_toList, Array.getElem?_setIfInBounds]
      by_cases hk : k = j
      · subst hk
        rw [if_pos rfl, if_pos (by simp at h3; omega), updX_at]
      · rw [if_neg hk, show updX y k z j = y j from if_neg (fun q => hk q.symm), ← Array.getElem?_toList]
        exact h5
    · rw [List.getElem?_eq_none (by simp; omega), List.getElem?_eq_none (by rw [lL_len]; omega)]
theorem ownL_cell {W : World} {B n g cap j t : Nat} {y : Nat → Value} (h : W.ownsRow B t 1 (.slice (some ⟨g, 0, none⟩) n cap) n (lL y n)) (hj : j < n) : W.cell? ⟨g, 0 + j, none⟩ = some (y j) ∧ W.frozen? ⟨g, 0 + j, none⟩ = false ∧ ∃ c, W.heap[g]? = some (.cells c t) := by
  rw [Nat.zero_add]
  rcases h.2 with ⟨e, _⟩ | ⟨g', cap', cur, e, _, hg, h1, h2, h3, h4⟩
  · cases e
  · injection e with e1 _ _
    injection e1 with e1
    injection e1 with e1 _ _
    subst e1
    refine ⟨?_, frozen4 hg, cur, hg⟩
    rw [cell_of_row _ _ _ _ _ _ hg, ← Array.getElem?_toList]
    have h5 : (cur.toList.take (n * 1))[j]? = some (y j) := by rw [h4]; exact lL_get _ _ _ hj
    rw [List.getElem?_take_of_lt (by omega)] at h5
    exact h5
theorem pstream15 (key : Nat → Nat) (n : Nat) (V : World) (hk : ∀ i, i < 16 → key i < 256) (hn : n ≤ 65536) : Calls Try.prog 25 #[.agg (bA 16 key), .agg (bA 16 (be 0)), .int .i64 ((n : Nat) : Int)] V fun e w' => ∃ r, e = .returned r ∧ SliceN w' r n (maskF (kw key) 0 fun _ => 0) ∧ Below V.heap.size V w' :=
  Calls.mono (pStream_any key 0 ((n : Nat) : Int) V hk (by omega) (by omega)) fun e w' ⟨r, g1, g2, g3⟩ => by
    have es : slen ((n : Nat) : Int) = n := by unfold slen; rw [if_pos (by omega)]; rfl
    rw [es] at g2
    exact ⟨r, g1, own_slice g2 (fun j _ => xor_lt (Nat.zero_lt_succ 255) (enc_by (kw_by _ hk) (be_by _) _ (Nat.mod_lt _ (by omega)))), g3⟩
theorem key_at {W : World} {v : Value} {b o c n k : Nat} {f : Nat → Nat} (e : v = .slice (some ⟨b, o, none⟩) n c) (h : SliceN W v n f) (hk : k < n) : W.cell? ⟨b, o + k, none⟩ = some (.int .u8 ((f k : Nat) : Int)) := by
  obtain ⟨b2, o2, c2, e2, _, h2⟩ := open_slB h (by omega)
  rw [e] at e2
  injection e2 with e3 _ _
  injection e3 with e3
  injection e3 with e3 e4 _
  subst e3
  subst e4
  exact h2 k hk
theorem own_shp {W : World} {B n t : Nat} {v : Value} {xs : List Value} (h : W.ownsRow B t 1 v n xs) : ∃ g n c, v = .slice g n c := by
  rcases h.2 with ⟨e, _⟩ | ⟨g', cap', cur, e, _⟩
  · exact ⟨_, _, _, e⟩
  · exact ⟨_, _, _, e⟩
theorem own_off {W : World} {B n g k : Nat} {u v : Value} {xs : List Value} {c : Array Value} {ty : TypeId} (h : W.ownsRow B 5 1 v n xs) (hg : W.heap[g]? = some (.cells c ty)) (ht : ty ≠ 5) : (W.setCell ⟨g, k, none⟩ u).ownsRow B 5 1 v n xs := by
  refine ⟨h.1, ?_⟩
  rcases h.2 with e | ⟨g', cap', cur, e, hB, hg', h1, h2, h3, h4⟩
  · exact Or.inl e
  · refine Or.inr ⟨g', cap', cur, e, hB, ?_, h1, h2, h3, h4⟩
    rw [heap4o _ hg (fun q => ?_)]
    · exact hg'
    · subst q
      rw [hg] at hg'
      injection hg' with hg'
      injection hg' with _ hg' _
      exact ht hg'
set_option maxRecDepth 100000 in
set_option maxHeartbeats 4000000 in
/-- The program's onion.Size. -/
theorem psize15 (l : Nat) (V : World) (h1 : 1 ≤ l) (h2 : l ≤ 8) :
    Calls Try.prog 32 #[.int .i64 ((l : Nat) : Int)] V fun e w' => e = .returned (.int .i64 ((szC l : Nat) : Int)) ∧ Below V.heap.size V w' := by
  go_enter Try.func32, Try.ntmps32
  refine wp_seq ?_
  refine wo_ 12 [(0, .int .i64 ((l : Nat) : Int))] ?_
  rintro a A ⟨t0, -⟩
  refine wi_ A (h1_ t0) (rf_ [] (h1_ t0) ?_)
  rintro a A - ⟨t0, -⟩
  have BW : Below V.heap.size V V := Below.refl _ _
  refine wp_seq ?_
  refine wp_seq ?_
  refine wi_ A (h1_ t0) (rv_ 1 (.bool false) (fun a ee => execDec (execLtW (p := l) (q := 1) rfl (ee _) rfl) (decide_eq_false (by omega))) (rv_ 4 (.bool false) (fun a ee => execDec (execGtN (p := l) (q := 8) rfl (ee _) rfl) (decide_eq_false (by omega))) (rf_ [(8, .bool false)] (h1_ t0) ?_)))
  rintro a A ⟨t8, -⟩ ⟨t0, -⟩
  refine wp_cond_false t8 ?_
  refine wp_skip ?_
  clear t8
  refine wp_seq ?_
  refine wi_ A (h1_ t0) (rv_ 1 (.int .i64 ((34 * l : Nat) : Int)) (fun a ee => execMulN (p := 34) (q := l) rfl rfl (ee _) (by omega)) (rv_ 2 (.int .i64 ((48 + 34 * l : Nat) : Int)) (fun a ee => execAd8 (p := 48) (q := 34 * l) rfl rfl (ee _) (by omega)) (rg_ [(2, .int .i64 ((48 + 34 * l : Nat) : Int))] ?_)))
  rintro a A ⟨t2, -⟩
  rw [sz_any h1] at t2
  refine wp_ret ?_
  refine bodyPost_ret (results_tmp rfl _ _ _) A.2 ⟨?_, BW⟩
  show Ending.returned (a.eval (.tmp 2)) = _
  rw [t2]
set_option maxRecDepth 100000 in
set_option maxHeartbeats 4000000 in
/-- The program's sizeOf. -/
theorem psizeOf (l : Nat) (V : World) (h2 : l ≤ 7) :
    Calls Try.prog 24 #[.int .i64 ((l : Nat) : Int)] V fun e w' => e = .returned (.int .i64 ((szC l : Nat) : Int)) ∧ Below V.heap.size V w' := by
  go_enter Try.func24, Try.ntmps24
  refine wp_seq ?_
  refine wo_ 7 [(0, .int .i64 ((l : Nat) : Int))] ?_
  rintro a A ⟨t0, -⟩
  refine wi_ A (h1_ t0) (rf_ [] (h1_ t0) ?_)
  rintro a A - ⟨t0, -⟩
  have BW : Below V.heap.size V V := Below.refl _ _
  refine wp_seq ?_
  refine wp_seq ?_
  by_cases hl0 : l = 0
  · refine wi_ A (h1_ t0) (rv_ 1 (.bool false) (fun a ee => execDec (execGtN (p := l) (q := 0) rfl (ee _) rfl) (decide_eq_false (by omega))) (rg_ [(4, .bool false)] ?_))
    rintro a A ⟨t4, -⟩
    refine wp_cond_false t4 ?_
    refine wp_skip ?_
    clear t4
    refine wp_seq ?_
    refine wi_ A h0_ (rg_ [(2, .int .i64 ((48 : Nat) : Int))] ?_)
    rintro a A ⟨t2, -⟩
    rw [hl0]
    refine wp_ret ?_
    repeat (first | with_reducible refine ret_in ?_ | with_reducible refine ret_then ?_)
    refine bodyPost_ret (results_tmp rfl _ _ _) A.2 ⟨?_, BW⟩
    show Ending.returned (a.eval (.tmp 2)) = _
    rw [t2]
    rfl
  · refine wi_ A (h1_ t0) (rv_ 1 (.bool true) (fun a ee => execDec (execGtN (p := l) (q := 0) rfl (ee _) rfl) (decide_eq_true (by omega))) (rf_ [(4, .bool true)] (h1_ t0) ?_))
    rintro a A ⟨t4, -⟩ ⟨t0, -⟩
    refine wp_cond_true t4 ?_
    clear t4
    refine wp_seq ?_
    refine wi_ A (h1_ t0) (rc_ 1 (psize15 l V (by omega) (by omega)) (cb_ fun X2 bQ => ?_))
    have bX := bQ
    clear bQ
    refine rg_ [(2, .int .i64 ((szC l : Nat) : Int))] ?_
    rintro a A ⟨t2, -⟩
    have ZX2 := bX.size
    replace BW := BW.trans (bX.mono BW.size)
    clear bX
    refine wp_ret ?_
    repeat (first | with_reducible refine ret_in ?_ | with_reducible refine ret_then ?_)
    refine bodyPost_ret (results_tmp rfl _ _ _) A.2 ⟨?_, BW⟩
    show Ending.returned (a.eval (.tmp 2)) = _
    rw [t2]
set_option maxRecDepth 100000 in
set_option maxHeartbeats 4000000 in
/-- The program's cellOf. -/
theorem pcellOf (q : Nat → Nat) (l n : Nat) (v : Value) (V : World) (FV : SliceZ V v n q) (hn : n ≤ 286) :
    Calls Try.prog 26 #[.int .i64 ((l : Nat) : Int), v] V fun e w' => ∃ r, e = .returned (.tuple #[r, .int .i64 ((0 : Nat) : Int)]) ∧ w'.ownsRow V.heap.size 5 1 r 320 (bytesL 320 (cellF (if l = 0 then 1 else 0) headO n q)) ∧ Below V.heap.size V w' := by
  go_enter Try.func26, Try.ntmps26
  refine wp_seq ?_
  refine wo_ 16 [(0, .int .i64 ((l : Nat) : Int)), (1, v)] ?_
  rintro a A ⟨t0, t1, -⟩
  refine wi_ A (h2_ t0 t1) (rf_ [] (h2_ t0 t1) ?_)
  rintro a A - ⟨t0, t1, -⟩
  have BW : Below V.heap.size V V := Below.refl _ _
  refine wp_seq ?_
  refine wp_seq ?_
  by_cases hl0 : l = 0
  · refine wi_ A (h2_ t0 t1) (rv_ 1 (.bool false) (fun a ee => execDec (execGtN (p := l) (q := 0) rfl (ee _) rfl) (decide_eq_false (by omega))) (rf_ [(7, .bool false)] (h1_ t1) ?_))
    rintro a A ⟨t7, -⟩ ⟨t1, -⟩
    refine wp_cond_false t7 ?_
    refine wp_skip ?_
    clear t7
    refine wp_seq ?_
    refine wi_ A (h1_ t1) (rc_ 1 (noise_any q n _ V FV (by omega)) fun e X3 hh => ?_)
    obtain ⟨c_, he, hk, hb⟩ := hh
    refine ⟨_, he, ?_⟩
    have bQ : Below V.heap.size V X3 := hb
    have FC : (X3.ownsRow V.heap.size 5 1 c_ (okN 319 n) (bytesL (okN 319 n) (cellF 1 headO n q))) := own_base hk ((Below.refl V.heap.size V)).size
    have bX := bQ
    clear bQ
    refine rg_ [(4, c_), (5, .int .i64 ((okE 319 n : Nat) : Int))] ?_
    rintro a A ⟨t4, t5, -⟩
    replace FV := (FV.on bX)
    have ZX3 := bX.size
    replace BW := BW.trans (bX.mono BW.size)
    clear bX
    have eE : okE 319 n = 0 := if_pos (by omega)
    have eN : okN 319 n = 320 := if_pos (by omega)
    rw [eE] at t5
    rw [eN] at FC
    rw [if_pos hl0]
    refine wp_ret ?_
    repeat (first | with_reducible refine ret_in ?_ | with_reducible refine ret_then ?_)
    refine bodyPost_ret (results_tmp2 rfl _ _ _) A.2 ⟨_, ?_, FC, BW⟩
    show Ending.returned (.tuple #[a.eval (.tmp 4), a.eval (.tmp 5)]) = _
    rw [t4, t5]
  · refine wi_ A (h2_ t0 t1) (rv_ 1 (.bool true) (fun a ee => execDec (execGtN (p := l) (q := 0) rfl (ee _) rfl) (decide_eq_true (by omega))) (rf_ [(7, .bool true)] (h1_ t1) ?_))
    rintro a A ⟨t7, -⟩ ⟨t1, -⟩
    refine wp_cond_true t7 ?_
    clear t7
    refine wp_seq ?_
    refine wi_ A (h1_ t1) (rc_ 1 (pad_any q n _ V FV (by omega)) fun e X2 hh => ?_)
    obtain ⟨c_, he, hk, hb⟩ := hh
    refine ⟨_, he, ?_⟩
    have bQ : Below V.heap.size V X2 := hb
    have FC : (X2.ownsRow V.heap.size 5 1 c_ (okN 320 n) (bytesL (okN 320 n) (cellF 0 headO n q))) := own_base hk ((Below.refl V.heap.size V)).size
    have bX := bQ
    clear bQ
    refine rg_ [(4, c_), (5, .int .i64 ((okE 320 n : Nat) : Int))] ?_
    rintro a A ⟨t4, t5, -⟩
    replace FV := (FV.on bX)
    have ZX2 := bX.size
    replace BW := BW.trans (bX.mono BW.size)
    clear bX
    have eE : okE 320 n = 0 := if_pos (by omega)
    have eN : okN 320 n = 320 := if_pos (by omega)
    rw [eE] at t5
    rw [eN] at FC
    rw [if_neg hl0]
    refine wp_ret ?_
    repeat (first | with_reducible refine ret_in ?_ | with_reducible refine ret_then ?_)
    refine bodyPost_ret (results_tmp2 rfl _ _ _) A.2 ⟨_, ?_, FC, BW⟩
    show Ending.returned (.tuple #[a.eval (.tmp 4), a.eval (.tmp 5)]) = _
    rw [t4, t5]
set_option maxRecDepth 100000 in
set_option maxHeartbeats 4000000 in
/-- The program's Cells. -/
theorem pcells (p : Nat → Nat) (L : Nat) (nc nl : Int) (pv : Value) (V : World) (FP : SliceN V pv L p) :
    Calls Try.prog 14 #[pv, .int .i64 nc, .int .i64 nl] V fun e w' => ∃ r y, e = .returned (.tuple #[r, .int .i64 ((clE L nc nl : Nat) : Int)]) ∧ w'.ownsRow V.heap.size 31 1 r (zl (clE L nc nl) nc.toNat) (lL y (zl (clE L nc nl) nc.toNat)) ∧ Fam V.heap.size (zl (clE L nc nl) nc.toNat) y (fun _ => 320) (clC p nl.toNat) w' ∧ Below V.heap.size V w' := by
  go_enter Try.func14, Try.ntmps14
  refine wp_seq ?_
  refine wo_ 72 [(0, pv), (1, .int .i64 nc), (2, .int .i64 nl)] ?_
  rintro a A ⟨t0, t1, t2, -⟩
  refine wi_ A (h3_ t0 t1 t2) (rf_ [] (h3_ t0 t1 t2) ?_)
  rintro a A - ⟨t0, t1, t2, -⟩
  have BW : Below V.heap.size V V := Below.refl _ _
  refine wp_seq ?_
  refine wp_seq ?_
  by_cases q0 : nc < 0
  · refine wi_ A (h3_ t0 t1 t2) (rv_ 1 (.bool true) (fun a ee => execLtCt (q := 0) rfl (ee _) q0) (rg_ [(27, .bool true)] ?_))
    rintro a A ⟨t27, -⟩
    refine wp_cond_true t27 ?_
    clear t27
    refine wp_seq ?_
    refine wi_ A h0_ (rg_ [(6, .slice none 0 0), (7, .int .i64 ((2 : Nat) : Int))] ?_)
    rintro a A ⟨t6, t7, -⟩
    have hE : clE L nc nl = 2 := if_neg (by omega)
    rw [hE, zl_no (by decide)]
    refine wp_ret ?_
    repeat (first | with_reducible refine ret_in ?_ | with_reducible refine ret_then ?_)
    refine bodyPost_ret (results_tmp2 rfl _ _ _) A.2 ⟨_, fun _ => undef, ?_, World.ownsRow_nil _ _ _ _, Fam.none _ _ _ _ _, BW⟩
    show Ending.returned (.tuple #[a.eval (.tmp 6), a.eval (.tmp 7)]) = _
    rw [t6, t7]
  · by_cases q1 : 16 < nc
    · refine wi_ A (h3_ t0 t1 t2) (rv_ 1 (.bool false) (fun a ee => execLtCf (q := 0) rfl (ee _) q0) (rv_ 4 (.bool true) (fun a ee => execGtCt (q := 16) rfl (ee _) q1) (rg_ [(27, .bool true)] ?_)))
      rintro a A ⟨t27, -⟩
      refine wp_cond_true t27 ?_
      clear t27
      refine wp_seq ?_
      refine wi_ A h0_ (rg_ [(6, .slice none 0 0), (7, .int .i64 ((2 : Nat) : Int))] ?_)
      rintro a A ⟨t6, t7, -⟩
      have hE : clE L nc nl = 2 := if_neg (by omega)
      rw [hE, zl_no (by decide)]
      refine wp_ret ?_
      repeat (first | with_reducible refine ret_in ?_ | with_reducible refine ret_then ?_)
      refine bodyPost_ret (results_tmp2 rfl _ _ _) A.2 ⟨_, fun _ => undef, ?_, World.ownsRow_nil _ _ _ _, Fam.none _ _ _ _ _, BW⟩
      show Ending.returned (.tuple #[a.eval (.tmp 6), a.eval (.tmp 7)]) = _
      rw [t6, t7]
    · by_cases q2 : nl < 0
      · refine wi_ A (h3_ t0 t1 t2) (rv_ 1 (.bool false) (fun a ee => execLtCf (q := 0) rfl (ee _) q0) (rv_ 4 (.bool false) (fun a ee => execGtCf (q := 16) rfl (ee _) q1) (rv_ 8 (.bool true) (fun a ee => execLtCt (q := 0) rfl (ee _) q2) (rg_ [(27, .bool true)] ?_))))
        rintro a A ⟨t27, -⟩
        refine wp_cond_true t27 ?_
        clear t27
        refine wp_seq ?_
        refine wi_ A h0_ (rg_ [(6, .slice none 0 0), (7, .int .i64 ((2 : Nat) : Int))] ?_)
        rintro a A ⟨t6, t7, -⟩
        have hE : clE L nc nl = 2 := if_neg (by omega)
        rw [hE, zl_no (by decide)]
        refine wp_ret ?_
        repeat (first | with_reducible refine ret_in ?_ | with_reducible refine ret_then ?_)
        refine bodyPost_ret (results_tmp2 rfl _ _ _) A.2 ⟨_, fun _ => undef, ?_, World.ownsRow_nil _ _ _ _, Fam.none _ _ _ _ _, BW⟩
        show Ending.returned (.tuple #[a.eval (.tmp 6), a.eval (.tmp 7)]) = _
        rw [t6, t7]
      · by_cases q3 : 8 ≤ nl
        · refine wi_ A (h3_ t0 t1 t2) (rv_ 1 (.bool false) (fun a ee => execLtCf (q := 0) rfl (ee _) q0) (rv_ 4 (.bool false) (fun a ee => execGtCf (q := 16) rfl (ee _) q1) (rv_ 8 (.bool false) (fun a ee => execLtCf (q := 0) rfl (ee _) q2) (rv_ 12 (.bool true) (fun a ee => execGeIt rfl (ee _) rfl q3) (rg_ [(27, .bool true)] ?_)))))
          rintro a A ⟨t27, -⟩
          refine wp_cond_true t27 ?_
          clear t27
          refine wp_seq ?_
          refine wi_ A h0_ (rg_ [(6, .slice none 0 0), (7, .int .i64 ((2 : Nat) : Int))] ?_)
          rintro a A ⟨t6, t7, -⟩
          have hE : clE L nc nl = 2 := if_neg (by omega)
          rw [hE, zl_no (by decide)]
          refine wp_ret ?_
          repeat (first | with_reducible refine ret_in ?_ | with_reducible refine ret_then ?_)
          refine bodyPost_ret (results_tmp2 rfl _ _ _) A.2 ⟨_, fun _ => undef, ?_, World.ownsRow_nil _ _ _ _, Fam.none _ _ _ _ _, BW⟩
          show Ending.returned (.tuple #[a.eval (.tmp 6), a.eval (.tmp 7)]) = _
          rw [t6, t7]
        · refine wi_ A (h3_ t0 t1 t2) (rv_ 1 (.bool false) (fun a ee => execLtCf (q := 0) rfl (ee _) q0) (rv_ 4 (.bool false) (fun a ee => execGtCf (q := 16) rfl (ee _) q1) (rv_ 8 (.bool false) (fun a ee => execLtCf (q := 0) rfl (ee _) q2) (rv_ 12 (.bool false) (fun a ee => execGeIf rfl (ee _) rfl q3) (rf_ [(27, .bool false)] (h3_ t0 t1 t2) ?_)))))
          rintro a A ⟨t27, -⟩ ⟨t0, t1, t2, -⟩
          refine wp_cond_false t27 ?_
          refine wp_skip ?_
          clear t27
          obtain ⟨n, rfl⟩ : ∃ n : Nat, nc = n := ⟨nc.toNat, by omega⟩
          obtain ⟨l, rfl⟩ : ∃ l : Nat, nl = l := ⟨nl.toNat, by omega⟩
          have hn16 : n ≤ 16 := by omega
          have hl7 : l ≤ 7 := by omega
          refine wp_seq ?_
          refine wp_seq ?_
          by_cases hL18 : 18 ≤ L
          · refine wi_ A (h3_ t0 t1 t2) (rv_ 1 (.int .i64 ((L : Nat) : Int)) (fun a ee => execLenV (len := L) rfl (ee _) (shp9 FP)) (rv_ 2 (.bool false) (fun a ee => execDec (execLtW (p := L) (q := 18) rfl (ee _) rfl) (decide_eq_false (by omega))) (rf_ [(30, .bool false)] (h3_ t0 t1 t2) ?_)))
            rintro a A ⟨t30, -⟩ ⟨t0, t1, t2, -⟩
            refine wp_cond_false t30 ?_
            refine wp_skip ?_
            clear t30
            have hE : clE L ((n : Nat) : Int) ((l : Nat) : Int) = 0 := (if_pos (by omega)).trans (if_pos hL18)
            rw [hE, zl_ok, show ((n : Nat) : Int).toNat = n from rfl, show ((l : Nat) : Int).toNat = l from rfl]
            have hpb : ∀ j, j < L → p j < 256 := FP.bytes
            have hsz : szC l ≤ 286 := szC_le hl7
            have hsz1 : 48 ≤ szC l := szC_ge l
            have hns : n * szC l ≤ 16 * 286 := Nat.mul_le_mul hn16 hsz
            refine wp_seq ?_
            refine wi_ A (h3_ t0 t1 t2) (rc_ 1 (psizeOf l V hl7) (cb_ fun X5 bQ => ?_))
            have bX := bQ
            clear bQ
            refine rf_ [(8, .int .i64 ((szC l : Nat) : Int))] (h3_ t0 t1 t2) ?_
            rintro a A ⟨t8, -⟩ ⟨t0, t1, t2, -⟩
            replace FP := (FP.on bX)
            have ZX5 := bX.size
            replace BW := BW.trans (bX.mono BW.size)
            clear bX
            obtain ⟨pa, pb, pcc, epv, hpc⟩ := sz_some FP (show 0 < L by omega)
            have ecut : sliced (some ⟨pa, pb, none⟩) 2 18 pcc 1 = .slice (some ⟨pa, pb + 2, none⟩) 16 (pcc - 2) := by
              unfold sliced
              rw [if_neg (by omega)]
              rfl
            refine wp_seq ?_
            refine wi_ A (h4_ t0 t1 t2 t8) (rv_ 1 (.slice (some ⟨pa, pb + 2, none⟩) 16 (pcc - 2)) (fun a ee => By8.execSlLH rfl ((ee _).trans epv) rfl rfl (by rw [← ecut]; exact By8.slice_lh (some ⟨pa, pb, none⟩) L pcc 2 18 (by omega) (by omega) X5)) (rv_ 2 (.pointer (some ⟨pa, pb + 2, none⟩)) (fun a ee => execArr16 (n := 16) rfl (ee _) (by omega)) (rv_ 3 (.agg (bA 16 (fun j => p (2 + j)))) (fun a ee => execLd16M (q := fun j => p (2 + j)) rfl (ee _) (fun j hj => by have h_ := key_at epv FP (show 2 + j < L by omega); rw [Nat.add_assoc]; exact h_)) (rv_ 4 (.agg (bA 16 (be 0))) (fun a ee => execB16 rfl) (rv_ 7 (.int .i64 ((n * (szC l) : Nat) : Int)) (fun a ee => execMulN (p := n) (q := szC l) rfl (ee _) (ee _) (by omega)) (rc_ 8 (pstream15 (fun j => p (2 + j)) (n * szC l) X5 (fun i hi => hpb _ (by omega)) (by omega)) fun e X6 hh => ?_))))))
            obtain ⟨s_, he, hk, hb⟩ := hh
            refine ⟨_, he, ?_⟩
            have bQ : Below X5.heap.size X5 X6 := hb
            have FXs : SliceN X6 s_ (n * szC l) (stC p) := hk
            have bX := bQ
            clear bQ
            refine rf_ [(9, s_)] (h3_ t1 t2 t8) ?_
            rintro a A ⟨t9, -⟩ ⟨t1, t2, t8, -⟩
            replace FP := (FP.on bX)
            have ZX6 := bX.size
            replace BW := BW.trans (bX.mono BW.size)
            clear bX
            have BB : Below X6.heap.size X6 X6 := Below.refl _ _
            refine wp_seq ?_
            obtain ⟨g10, egg10⟩ : ∃ z_ : Nat, X6.heap.size = z_ := ⟨_, rfl⟩
            refine wi_ A (h4_ t1 t2 t8 t9) (rs_ 1 (fun a ee => ?_))
            refine stepV rfl rfl (execMkL rfl (ee _) (ee _) (by omega)) ⟨.slice (some ⟨g10, 0, none⟩) n n, ⟨_, rfl, by subst egg10; rfl⟩, fun X7 hX => ?_⟩
            have bQ : Below X6.heap.size X6 X7 := by subst hX egg10; exact (belNew X6 _)
            have FT : (X7.ownsRow X6.heap.size 31 1 (.slice (some ⟨g10, 0, none⟩) n n) n (lL (fun _ => .slice none 0 0) n)) := by subst hX egg10; exact ownD_base (own_mkLB X6 n (by omega)) (BB).size
            have Fg : (X6.heap.size ≤ g10) := by subst hX egg10; exact (BB).size
            replace BB := BB.trans (bQ.mono BB.size)
            clear bQ hX egg10 ee a
            refine rf_ [(10, .slice (some ⟨g10, 0, none⟩) n n)] (h4_ t1 t2 t8 t9) ?_
            rintro a A ⟨t10, -⟩ ⟨t1, t2, t8, t9, -⟩
            refine wp_seq ?_
            refine wp_seq ?_
            refine wi_ A (h5_ t1 t2 t8 t9 t10) (rv_ 1 (.int .i64 ((n : Nat) : Int)) (fun a ee => execLenLB (len := n) rfl (ee _) ⟨_, _, rfl⟩) (rf_ [(45, .int .i64 ((n : Nat) : Int)), (46, .int .i64 ((0 : Nat) : Int))] (h4_ t2 t8 t9 t10) ?_))
            rintro a A ⟨t45, t46, -⟩ ⟨t2, t8, t9, t10, -⟩
            have FM : (Fam X6.heap.size (0) (fun _ => .slice none 0 0) (fun _ => 320) (clC p l) X7) := Fam.none _ _ _ _ _
            refine wp_block ?_
            refine wp_loop (fun a W => ∃ (i : Nat) (y : Nat → Value), i ≤ n ∧ (a.tmps.size = 72 ∧ a.defers = []) ∧ a.eval (.tmp 2) = .int .i64 ((l : Nat) : Int) ∧ a.eval (.tmp 8) = .int .i64 ((szC l : Nat) : Int) ∧ a.eval (.tmp 9) = s_ ∧ a.eval (.tmp 10) = .slice (some ⟨g10, 0, none⟩) n n ∧ a.eval (.tmp 45) = .int .i64 ((n : Nat) : Int) ∧ a.eval (.tmp 46) = .int .i64 ((i : Nat) : Int) ∧ Below X6.heap.size X6 W ∧ (W.ownsRow X6.heap.size 31 1 (.slice (some ⟨g10, 0, none⟩) n n) n (lL (y) n)) ∧ (Fam X6.heap.size (i) (y) (fun _ => 320) (clC p l) W)) (fun a _ => n - (intOf (a.eval (.tmp 46))).toNat) ⟨0, fun _ => .slice none 0 0, Nat.zero_le _, A, t2, t8, t9, t10, t45, t46, BB, FT, FM⟩ ?_
            clear A t2 t8 t9 t10 t45 t46 BB FT FM a
            rintro a XL9 ⟨i, y, hi, A, t2, t8, t9, t10, t45, t46, BB, FT, FM⟩
            have esi := t46
            refine wp_seq ?_
            refine wi_ A (h6_ t2 t8 t9 t10 t45 t46) (rv_ 0 (.bool (decide (i < n))) (fun a ee => execLtW (p := i) (q := n) rfl (ee _) (ee _)) (rf_ [(47, .bool (decide (i < n)))] (h6_ t2 t8 t9 t10 t45 t46) ?_))
            rintro a A ⟨t47, -⟩ ⟨t2, t8, t9, t10, t45, t46, -⟩
            refine wp_seq ?_
            by_cases lti : i < n
            · rw [decide_eq_true lti] at t47
              refine wp_cond_true t47 ?_
              refine wp_skip ?_
              clear t47
              refine wp_seq ?_
              refine wp_block ?_
              have his : i * szC l + szC l ≤ n * szC l := by have h_ := Nat.mul_le_mul_right (szC l) lti; rw [Nat.succ_mul] at h_; exact h_
              have hi1 : (i + 1) * szC l = i * szC l + szC l := Nat.succ_mul _ _
              obtain ⟨sa, sb, scc, esv, hsc⟩ := sz_some FXs (show 0 < n * szC l by omega)
              refine wp_seq ?_
              refine wi_ A (h6_ t2 t8 t9 t10 t45 t46) (rf_ [(11, .int .i64 ((i : Nat) : Int))] (h6_ t2 t8 t9 t10 t45 t46) ?_)
              rintro a A ⟨t11, -⟩ ⟨t2, t8, t9, t10, t45, t46, -⟩
              have hCC := BB.size
              have hlo : ∀ t, t < i → ∀ b, (y t).ownBlock = some b → b < XL9.heap.size := fun t ht b q => ((FM.rows t ht).lt b q).2
              refine wp_seq ?_
              refine wi_ A (h7_ t2 t8 t9 t10 t45 t46 t11) (rv_ 4 (.int .i64 ((i * (szC l) : Nat) : Int)) (fun a ee => execMulN (p := i) (q := szC l) rfl (ee _) (ee _) (by omega)) (rv_ 6 (.int .i64 ((i + 1 : Nat) : Int)) (fun a ee => execAd8 (p := i) (q := 1) rfl (ee _) rfl (by omega)) (rv_ 8 (.int .i64 ((i * szC l + szC l : Nat) : Int)) (fun a ee => hi1 ▸ execMulN (p := i + 1) (q := szC l) rfl (ee _) (ee _) (by omega)) (rv_ 9 (sliced (some ⟨sa, sb, none⟩) (i * szC l) (i * szC l + szC l) scc 1) (fun a ee => By8.execSlLH rfl ((ee _).trans esv) (ee _) (ee _) (By8.slice_lh (some ⟨sa, sb, none⟩) (n * szC l) scc (i * szC l) (i * szC l + szC l) (by omega) (by omega) XL9)) (rc_ 10 (pcellOf (fun j => stC p (i * szC l + j)) l (szC l) _ XL9 (piece15 esv (FXs.on BB) his) hsz) fun e X11 hh => ?_)))))
              obtain ⟨c_, he, hk, hb⟩ := hh
              refine ⟨_, he, ?_⟩
              have bQ : Below XL9.heap.size XL9 X11 := hb
              have FC : (X11.ownsRow XL9.heap.size 5 1 c_ 320 (bytesL 320 (clC p l i))) := hk
              replace FT := (ownD_below FT bQ)
              replace FM := (FM.on bQ)
              replace BB := BB.trans (bQ.mono BB.size)
              clear bQ
              refine rf_ [(12, c_), (13, .int .i64 ((0 : Nat) : Int))] (h7_ t2 t8 t9 t10 t45 t46 t11) ?_
              rintro a A ⟨t12, t13, -⟩ ⟨t2, t8, t9, t10, t45, t46, t11, -⟩
              refine wp_seq ?_
              refine wp_seq ?_
              refine wi_ A (h9_ t2 t8 t9 t10 t45 t46 t11 t12 t13) (rv_ 1 (.bool false) (fun a ee => execDec (execNeE (p := 0) (q := 0) rfl (ee _) rfl) (decide_eq_false (by omega))) (rf_ [(64, .bool false)] (h8_ t2 t8 t9 t10 t45 t46 t11 t12) ?_))
              rintro a A ⟨t64, -⟩ ⟨t2, t8, t9, t10, t45, t46, t11, t12, -⟩
              refine wp_cond_false t64 ?_
              refine wp_skip ?_
              clear t64
              refine wi_ A (h8_ t2 t8 t9 t10 t45 t46 t11 t12) (rv_ 3 (.pointer (some ⟨g10, 0 + i, none⟩)) (fun a ee => execIdxLB (k := i) rfl (ee _) (ee _) lti) (rs_ 4 (fun a ee => ?_)))
              obtain ⟨hc_, hf_, cur_, hcur_⟩ := ownL_cell FT lti
              refine stepS rfl rfl (execStL rfl (ee _) (ee _) (own_shp FC) hc_ hf_) ⟨_, ⟨_, rfl, rfl⟩, fun X14 hX => ?_⟩
              obtain ⟨BB, FM, FC, FT2⟩ : Below X6.heap.size X6 X14 ∧ (Fam X6.heap.size (i) (y) (fun _ => 320) (clC p l) X14) ∧ (X14.ownsRow XL9.heap.size 5 1 c_ 320 (bytesL 320 (clC p l i))) ∧ (X14.ownsRow X6.heap.size 31 1 (.slice (some ⟨g10, 0, none⟩) n n) n (lL (updX y i c_) n)) := by subst hX; exact ⟨(BB).setCell Fg _, fam_setL FM hcur_, (own_off FC hcur_ (by decide)), ownL_setB FT⟩
              clear FT hX ee a
              refine rf_ [] (h6_ t2 t8 t9 t10 t45 t46) ?_
              rintro a A - ⟨t2, t8, t9, t10, t45, t46, -⟩
              have FM2 : (Fam X6.heap.size (i + 1) (updX y i c_) (fun _ => 320) (clC p l) X14) := fam_add9 FM hlo FC hCC
              clear FM FC
              refine wi_ A (h6_ t2 t8 t9 t10 t45 t46) (rv_ 0 (.int .i64 ((i + 1 : Nat) : Int)) (fun a ee => execAd8 (p := i) (q := 1) rfl (ee _) rfl (by omega)) (rf_ [(46, .int .i64 ((i + 1 : Nat) : Int))] (h5_ t2 t8 t9 t10 t45) ?_))
              rintro a A ⟨t46, -⟩ ⟨t2, t8, t9, t10, t45, -⟩
              exact ⟨⟨i + 1, updX y i c_, lti, A, t2, t8, t9, t10, t45, t46, BB, FT2, FM2⟩, by show n - (intOf (a.eval (.tmp 46))).toNat < n - (intOf (Act.eval _ (.tmp 46))).toNat; rw [t46, esi]; show n - (i + 1) < n - i; omega⟩
            · rw [decide_eq_false lti] at t47
              refine wp_cond_false t47 ?_
              refine wp_exit ?_
              first | with_reducible refine exit_in ?_ | with_reducible refine exit_then (exit_in ?_) | with_reducible refine exit_then (exit_then (exit_in ?_)) | refine exit_in ?_ | refine exit_then (exit_in ?_) | refine exit_then (exit_then (exit_in ?_))
              clear t47 esi
              have hin : i = n := by omega
              rw [hin] at FM
              clear t2 t8 t9 t45 t46
              have BW2 := BW.trans (BB.mono BW.size)
              refine wp_seq ?_
              refine wi_ A (h1_ t10) (rg_ [(6, .slice (some ⟨g10, 0, none⟩) n n), (7, .int .i64 ((0 : Nat) : Int))] ?_)
              rintro a A ⟨t6, t7, -⟩
              refine wp_ret ?_
              refine bodyPost_ret (results_tmp2 rfl _ _ _) A.2 ⟨_, y, ?_, ownD_base FT BW.size, fam_base FM BW.size, BW2⟩
              show Ending.returned (.tuple #[a.eval (.tmp 6), a.eval (.tmp 7)]) = _
              rw [t6, t7]
          · refine wi_ A (h3_ t0 t1 t2) (rv_ 1 (.int .i64 ((L : Nat) : Int)) (fun a ee => execLenV (len := L) rfl (ee _) (shp9 FP)) (rv_ 2 (.bool true) (fun a ee => execDec (execLtW (p := L) (q := 18) rfl (ee _) rfl) (decide_eq_true (by omega))) (rg_ [(30, .bool true)] ?_)))
            rintro a A ⟨t30, -⟩
            refine wp_cond_true t30 ?_
            clear t30
            refine wp_seq ?_
            refine wi_ A h0_ (rg_ [(6, .slice none 0 0), (7, .int .i64 ((3 : Nat) : Int))] ?_)
            rintro a A ⟨t6, t7, -⟩
            have hE : clE L ((n : Nat) : Int) ((l : Nat) : Int) = 3 := (if_pos (by omega)).trans (if_neg (by omega))
            rw [hE, zl_no (by decide)]
            refine wp_ret ?_
            repeat (first | with_reducible refine ret_in ?_ | with_reducible refine ret_then ?_)
            refine bodyPost_ret (results_tmp2 rfl _ _ _) A.2 ⟨_, fun _ => undef, ?_, World.ownsRow_nil _ _ _ _, Fam.none _ _ _ _ _, BW⟩
            show Ending.returned (.tuple #[a.eval (.tmp 6), a.eval (.tmp 7)]) = _
            rw [t6, t7]
/-- The landed package keeps the words. -/
theorem impl15 : Impl :=
  ⟨fun na nd nm V _ _ _ => ptable na nd nm V, fun p L na nd nm pv V h _ _ _ _ => pcount p L na nd nm pv V h, fun p L nc nl pv V h _ _ _ => pcells p L nc nl pv V h⟩
end Go.Proofs.Ytmfaapbhehhlpaa.Noi
