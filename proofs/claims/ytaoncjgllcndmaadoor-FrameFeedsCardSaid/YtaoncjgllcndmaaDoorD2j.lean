import Derived.Test.YtaoncjgllcndmaaDoorD2i
import Derived.Test.YtaoncjgllcndmaaDoorD1a
import Derived.Test.YtaoncjgllcndmaaDoorD1d
namespace Go.Proofs.YtaoncjgllcndmaaDoor.Frm
open Go.RowKit Gf8 Aes By8 Cel
/- Header, End, Read. -/

theorem results_cell_tmp1 {P : Program} {fn : Func} {p u : Tmp} {ty : TypeId} (h : fn.results = #[.cell p ty, .tmp u]) (tmps : Array Value) (w : World) (g : Nat) (t : TypeId) (cs : Array Value) (fr : Nat × Nat) (d : TypeDesc)
    (hp : tmps.getD p undef = .pointer (some ⟨g, 0, none⟩)) (hg : w.heap[g]? = some (.cells cs t fr))
    (hu : P.underlying ty = some d) (hd : (match d with | .struct _ | .array _ _ => true | _ => false) = true) (hi : (P.info? ty).map (·.size) = some cs.size) :
    (results fn tmps).run P w = .ok (.tuple #[.agg cs, tmps.getD u undef]) w := by
  have hp' : tmps[p]?.getD undef = .pointer (some ⟨g, 0, none⟩) := by simpa using hp
  simp [results, h, hp', asAddr, run_loadVar_row w g t ty cs fr d hg hu hd hi]
theorem FAt.hd {F : Nat} {s : FSt} {W : World} (h : FAt F s W) : W.rangeAt F 325 [.int .i64 s.rd, .int .i64 s.ep, .int .i64 s.lf] := by
  intro j v hv
  match j, hv with
  | 0, hv => exact h.rd.trans hv
  | 1, hv => exact h.ep.trans hv
  | 2, hv => exact h.lf.trans hv
theorem sizeH (rd ep lf : Int) : (Tryd.prog.info? 23).map (·.size) = some (hC rd ep lf).size := by
  show _ = some 3
  kernel_rfl
theorem execH0 {o : Oper} {a : Act} {w : World} (ho : o.op = .build 23 #[]) : (execOp a.eval o).run Tryd.prog w = .ok (.value (.agg (hC 0 0 0))) w := by
  unfold execOp
  simp only [ho]
  simp [go_sem, hC]
set_option maxRecDepth 20000 in
theorem header_nil (V : World) : Calls Tryd.prog 24 #[.pointer none] V fun e w' => e = .returned (.tuple #[.agg (hC 0 0 0), .bool false]) ∧ Below V.heap.size V w' := by
  have z := zeroH
  go_enter Tryd.func24, Tryd.ntmps24
  go_wp2_with (first
    | (refine wpList_ex rfl (execH0 rfl) ?_)
    | (refine atStore 23 (.tmp 2) (.tmp 13) rfl ?_; go_must (refine wpList_exS rfl (execStHd (r0 := 0) (e0 := 0) (l0 := 0) rfl rfl rfl (heapNew V _)) ?_)))
  refine bodyPost_ret (results_cell_tmp1 Tryd.results24 _ _ V.heap.size 23 _ (0, 0) _ rfl (setRow_heap _ _ _ _ _ _ (heapNew V _)) Tryd.underlying23 rfl (sizeH _ _ _)) rfl ⟨rfl, below4 (belNew V _) (Nat.le_refl _) _⟩
set_option maxRecDepth 20000 in
theorem header_any (F : Nat) (s : FSt) (V : World) (h : FAt F s V) (hf : s.f < 10) : Calls Tryd.prog 24 #[.pointer (some ⟨F, 0, none⟩)] V fun e w' => e = .returned (.tuple #[.agg (if 6 ≤ s.f then hC s.rd s.ep s.lf else hC 0 0 0), .bool (decide (6 ≤ s.f))]) ∧ Below V.heap.size V w' := by
  have z := zeroH
  have h1 := h.on (belNew V (.cells (hC 0 0 0) 23))
  have c0 := h1.c0
  have HD : Hid (_) := h1.hd
  by_cases h6 : 6 ≤ s.f
  · have i1 : ¬ (s.f : Int) ≤ 5 := by omega
    rw [if_pos h6, decide_eq_true h6]
    clear h6 hf h1 h
    go_enter Tryd.func24, Tryd.ntmps24
    go_wp2_with (first
      | (refine atLoad 23 (.tmp 16) rfl ?_; go_must (refine wpList_ex rfl (execLoadMid (cs := [.int .i64 s.rd, .int .i64 s.ep, .int .i64 s.lf]) rfl rfl HD.out Tryd.underlying23 rfl (by kernel_rfl)) ?_))
      | (refine atStore 23 (.tmp 2) (.tmp 17) rfl ?_; go_must (refine wpList_exS rfl (execStHd (r0 := 0) (e0 := 0) (l0 := 0) (rd := s.rd) (ep := s.ep) (lf := s.lf) rfl rfl rfl (heapNew V _)) ?_)))
    refine bodyPost_ret (results_cell_tmp1 Tryd.results24 _ _ V.heap.size 23 _ (0, 0) _ rfl (setRow_heap _ _ _ _ _ _ (heapNew V _)) Tryd.underlying23 rfl (sizeH _ _ _)) rfl ⟨rfl, below4 (belNew V _) (Nat.le_refl _) _⟩
  · have i1 : (s.f : Int) ≤ 5 := by omega
    rw [if_neg h6, decide_eq_false h6]
    clear h6 hf h1 h HD
    go_enter Tryd.func24, Tryd.ntmps24
    go_wp2_with (first
      | (refine wpList_ex rfl (execH0 rfl) ?_)
      | (refine atStore 23 (.tmp 2) (.tmp 13) rfl ?_; go_must (refine wpList_exS rfl (execStHd (r0 := 0) (e0 := 0) (l0 := 0) rfl rfl rfl (heapNew V _)) ?_)))
    refine bodyPost_ret (results_cell_tmp1 Tryd.results24 _ _ V.heap.size 23 _ (0, 0) _ rfl (setRow_heap _ _ _ _ _ _ (heapNew V _)) Tryd.underlying23 rfl (sizeH _ _ _)) rfl ⟨rfl, below4 (belNew V _) (Nat.le_refl _) _⟩
set_option maxRecDepth 20000 in
theorem end_nil (V : World) : Calls Tryd.prog 25 #[.pointer none] V fun e w' => e = .returned (.tuple #[.int .i64 0, .int .i64 2]) ∧ Below V.heap.size V w' := by
  go_enter Tryd.func25, Tryd.ntmps25
  go_wp2
  go_ret2
  exact ⟨rfl, Below.refl _ _⟩
set_option maxRecDepth 20000 in
theorem put_nil (v : Value) (V : World) : Calls Tryd.prog 20 #[.pointer none, v] V fun e w' => e = .returned (.tuple #[.slice none 0 0, .int .i64 2]) ∧ Below V.heap.size V w' := by
  go_enter Tryd.func20, Tryd.ntmps20
  go_wp2
  go_step3
  go_wp2
  try rw [Exit.noGoto_ret]
  go_ret2
  exact ⟨rfl, Below.refl _ _⟩
/-- What End tells. -/
def endP (s : FSt) : Nat × Nat := if s.ft ≠ 0 then (s.pl, s.ft) else if s.f = 9 then (0, 0) else (s.pl + s.hv, 67)
set_option maxRecDepth 20000 in
theorem end_any (F : Nat) (s : FSt) (V : World) (h : FAt F s V) (hl : s.ft = 0 → s.pl + s.hv ≤ 140737488355328) : Calls Tryd.prog 25 #[.pointer (some ⟨F, 0, none⟩)] V fun e w' => e = .returned (.tuple #[.int .i64 ((endP s).1 : Nat), .int .i64 ((endP s).2 : Nat)]) ∧ Below V.heap.size V w' := by
  have c0 := h.c0
  have c1 := h.ft
  have c2 := h.pl
  have c3 := h.hv
  unfold endP
  by_cases h1 : s.ft ≠ 0
  · have i1 : ((s.ft : Int) != 0) = true := by simp; omega
    rw [if_pos h1]
    clear h1 h hl
    go_enter Tryd.func25, Tryd.ntmps25
    go_wp2_with fail
    go_quiet (fail)
    go_wp2
    go_ret2
    exact ⟨rfl, belowD (Below.refl _ _) _⟩
  · have i1 : ((s.ft : Int) != 0) = false := by simp; omega
    rw [if_neg h1]
    by_cases h9 : s.f = 9
    · have i2 : (s.f : Int) = 9 := by omega
      rw [if_pos h9]
      clear h1 h h9 hl
      go_enter Tryd.func25, Tryd.ntmps25
      go_wp2
      go_ret2
      exact ⟨rfl, Below.refl _ _⟩
    · have i2 : ¬ (s.f : Int) = 9 := by omega
      have i3 : (s.pl : Int) + s.hv ≤ 140737488355328 := by have := hl (by omega); omega
      rw [if_neg h9]
      clear h1 h h9 hl
      go_enter Tryd.func25, Tryd.ntmps25
      go_wp2_with fail
      go_quiet (fail)
      go_wp2
      go_ret2
      exact ⟨rfl, belowD (Below.refl _ _) _⟩
/-- End tells what judging comes to. -/
theorem Took.ends {q : Nat → Nat} {n k : Nat} {s : FSt} (h : Took q n k s) (hb : ∀ j, j < n → q j < 256) : endP s = jE q n := by
  obtain ⟨_, _, a, b, _, c⟩ := h.tells hb
  unfold endP
  by_cases e : s.ft ≠ 0
  · rw [if_pos e, b e]
  · rw [if_neg e, a (by omega), c (by omega)]
theorem Took.pl_le {q : Nat → Nat} {n k : Nat} {s : FSt} (h : Took q n k s) : s.pl ≤ n ∧ s.f < 10 := by
  refine ⟨?_, by have := h.pos.lt; omega⟩
  rcases h.or with ⟨_, h2, _⟩ | ⟨_, _, h3⟩ <;> omega
theorem Took.le {q : Nat → Nat} {n k : Nat} {s : FSt} (h : Took q n k s) (h0 : s.ft = 0) : s.pl + s.hv = n := by
  rcases h.or with ⟨_, h2, _⟩ | ⟨_, h3, _⟩
  · exact h2
  · exact absurd h0 h3
theorem end_took (F : Nat) (s : FSt) (q : Nat → Nat) (n k : Nat) (V : World) (h : FAt F s V) (tk : Took q n k s) (hb : ∀ j, j < n → q j < 256) (hn : n ≤ 140737488351232) : Calls Tryd.prog 25 #[.pointer (some ⟨F, 0, none⟩)] V fun e w' => e = .returned (.tuple #[.int .i64 ((jE q n).1 : Nat), .int .i64 ((jE q n).2 : Nat)]) ∧ Below V.heap.size V w' := by
  have := end_any F s V h (fun e => by have := tk.le e; omega)
  rw [tk.ends hb] at this
  exact this
theorem saved_below {F B : Nat} {V W : World} (h : Saved (fun k => k = F) V W) (hF : B ≤ F) (hB : B ≤ V.heap.size) : Below B V W :=
  ⟨h.os, h.tape, h.output, h.size, fun k hk => h.block k (by omega) (by omega)⟩
theorem ownL_base' {W : World} {B C n : Nat} {v : Value} {xs : List Value} (h : W.ownsRow C 30 1 v n xs) (hB : B ≤ C) : W.ownsRow B 30 1 v n xs := ownL_base h hB
theorem CG.base {B C k : Nat} {x : Nat → Value} {cb : Nat → Nat → Nat} {cv : Value} {W : World} (h : CG C k x cb cv W) (hB : B ≤ C) : CG B k x cb cv W := ⟨ownL_base h.own hB, ⟨fun t ht => own_base (h.fam.rows t ht) hB, h.fam.dis⟩⟩
theorem CG.sub {B k k' : Nat} {x : Nat → Value} {p : Nat → Nat} {cv : Value} {W : World} (h : CG B k x (fun i => cellB p (0 + i)) cv W) (e : k = k') : CL B k' x p cv W := by
  subst e
  refine ⟨h.own, ⟨fun t ht => ?_, h.fam.dis⟩⟩
  have := h.fam.rows t ht
  rw [Nat.zero_add] at this
  exact this
set_option maxRecDepth 20000 in
set_option maxHeartbeats 1000000 in
theorem pread_any (p : Nat → Nat) (len : Nat) (v : Value) (V : World) (g : Rules V) (hv : SliceN V v len p) (hl : len ≤ 140737488351232) :
    Calls Tryd.prog 17 #[v] V fun e w' => ∃ cv x, e = .returned (.tuple #[.agg (bC (rRound p len) (rEpoch p len) (rLeft p len) cv), .int .i64 (jE p len).1, .int .i64 (jE p len).2]) ∧ CL V.heap.size (rK p len) x p cv w' ∧ Below V.heap.size V w' := by
  have z := zeroB
  have b0 := belNew V (.cells (bC 0 0 0 (.slice none 0 0)) 26)
  have h00 := heapNew V (.cells (bC 0 0 0 (.slice none 0 0)) 26)
  obtain ⟨V0, hV0⟩ : ∃ V0, V.alloc (.cells (bC 0 0 0 (.slice none 0 0)) 26) = V0 := ⟨_, rfl⟩
  rw [hV0] at b0 h00
  have sz0 : V.heap.size < V0.heap.size := by rw [← hV0]; simp
  have HB : Hid (Rules V0 ∧ SliceN V0 v len p ∧ (∀ j, j < len → p j < 256) ∧ len ≤ 140737488351232 ∧ V.heap.size < V0.heap.size ∧ Below V.heap.size V V0 ∧ True ∧ V0.heap[V.heap.size]? = some (.cells (bC 0 0 0 (.slice none 0 0)) 26)) := ⟨g.on b0 g.sz, hv.on b0, hv.bytes, hl, sz0, b0, trivial, h00⟩
  have HV : Hid (V.alloc (.cells (bC 0 0 0 (.slice none 0 0)) 26) = V0) := hV0
  clear g hv hl b0 h00 hV0 sz0
  obtain ⟨E, hE⟩ : ∃ E, jE p len = E := ⟨_, rfl⟩
  by_cases e0 : E.2 = 0
  · have i1 : ((E.2 : Int) != 0) = false := by simp; omega
    go_enter Tryd.func17, Tryd.ntmps17
    go_wp2_with (first
      | (go_at_call 19; rw [HV.out]; refine (new_any V0).mono ?_; rintro e w1 ⟨F, rfl, hF, fa, b1⟩; have N1 : Hid (V0.heap.size ≤ F ∧ FAt F newS w1 ∧ Below V0.heap.size V0 w1) := ⟨hF, fa, b1⟩; clear hF fa b1)
      | (go_at_call 20; refine (put_any F newS p 0 len 0 v w1 N1.out.2.1 (HB.out.1.on N1.out.2.2 (by have := HB.out.2.2.2.2.1; omega)) (by have := HB.out.2.2.2.2.1; have := N1.out.1; omega) (Took.begin p) (Nat.zero_le _) (sliceN_cg (HB.out.2.1.on N1.out.2.2) fun j _ => by rw [Nat.zero_add]) (off_of HB.out.2.1 N1.out.1) HB.out.2.2.1 HB.out.2.2.2.1).mono ?_; rintro e w2 ⟨cv, x, s, c, rfl, cg, ft, tk⟩; obtain ⟨ac, cc, rfl⟩ := ownL_shape cg.own; have P2 : Hid (CG w1.heap.size c x (fun i => cellB p (0 + i)) (.slice ac c cc) w2 ∧ FTo F s w1 w2 ∧ Took p len (0 + c) s) := ⟨cg, ft, tk⟩; clear cg ft tk)
      | (go_at_call 25; refine (end_took F s p len (0 + c) w2 P2.out.2.1.at' P2.out.2.2 HB.out.2.2.1 HB.out.2.2.2.1).mono ?_; rw [hE]; rintro e w3 ⟨rfl, b3⟩; have r0 : w3.heap[V.heap.size]? = some (.cells (bC 0 0 0 (.slice none 0 0)) 26) := (by have l0 := HB.out.2.2.2.2.1; have l1 := N1.out.2.2.size; have l2 := P2.out.2.1.sv.size; rw [b3.block _ (by omega), P2.out.2.1.sv.block _ (by omega) (by have := N1.out.1; omega), N1.out.2.2.block _ l0]; exact HB.out.2.2.2.2.2.2.2); have R0 : Hid (_) := r0; have F3 : Hid (FAt F s w3) := P2.out.2.1.at'.on b3; have B3 : Hid (Below w2.heap.size w2 w3) := b3; clear r0 b3)
      | (refine atLoad 23 (.tmp 29) rfl ?_; go_must (refine wpList_ex rfl (execLoadMid (cs := [.int .i64 s.rd, .int .i64 s.ep, .int .i64 s.lf]) rfl rfl F3.out.hd Tryd.underlying23 rfl (by kernel_rfl)) ?_))
      | (refine wpList_ex rfl (execB2 (rd := s.rd) (ep := s.ep) (lf := s.lf) (ao := ac) (n := c) (c := cc) rfl rfl rfl) ?_)
      | (refine atStore 26 (.tmp 2) (.tmp 32) rfl ?_; go_must (refine wpList_exS rfl (execStBt (cv := .slice ac c cc) (rd := s.rd) (ep := s.ep) (lf := s.lf) rfl rfl rfl R0.out rfl) ?_)))
    refine bodyPost_ret (results_cell_tmp2 Tryd.results17 _ _ V.heap.size 26 _ (0, 0) _ rfl (setRow_heap _ _ _ (bC s.rd s.ep s.lf (.slice ac c cc)) _ _ R0.out) Tryd.underlying26 rfl (sizeB _ _ _ _)) rfl ?_
    obtain ⟨cg, ft, tk⟩ := P2.out
    have te := tk.ends HB.out.2.2.1
    rw [hE] at te
    obtain ⟨h0, h9⟩ : s.ft = 0 ∧ s.f = 9 := by
      unfold endP at te
      by_cases q1 : s.ft ≠ 0
      · rw [if_pos q1] at te
        rw [← te] at e0
        exact absurd e0 q1
      · rw [if_neg q1] at te
        by_cases q2 : s.f = 9
        · exact ⟨by omega, q2⟩
        · rw [if_neg q2] at te
          rw [← te] at e0
          cases e0
    obtain ⟨t1, t2, _⟩ := tk.tells HB.out.2.2.1
    rw [h9, decide_eq_true (by omega)] at t2
    have o1 : okR p len = true := by unfold okR; rw [hE, e0]; rfl
    have r1 : rRound p len = s.rd := by unfold rRound jRound; rw [if_pos o1, if_pos t2]; exact (tk.rd (by omega)).symm
    have r2 : rEpoch p len = s.ep := by unfold rEpoch jEpoch; rw [if_pos o1, if_pos t2]; exact (tk.ep (by omega)).symm
    have r3 : rLeft p len = s.lf := by unfold rLeft jLeft; rw [if_pos o1, if_pos t2]; exact (tk.lf (by omega)).symm
    have r4 : rK p len = 0 + c := by unfold rK; rw [if_pos o1]; exact t1
    have eE : E = (0, 0) := by rw [← hE]; exact jE_ok (by rw [hE]; exact e0)
    rw [r1, r2, r3, r4, hE, eE]
    have l1 := N1.out.2.2.size
    have cl : CL V.heap.size (0 + c) x p (.slice ac c cc) w2 := (cg.base (by have := HB.out.2.2.2.2.1; omega)).sub (Nat.zero_add c).symm
    have b2 : Below V.heap.size V w2 := HB.out.2.2.2.2.2.1.trans ((N1.out.2.2.mono (by have := HB.out.2.2.2.2.1; omega)).trans (saved_below ft.sv (by have := HB.out.2.2.2.2.1; have := N1.out.1; omega) (by have := HB.out.2.2.2.2.1; omega)))
    exact ⟨_, x, rfl, (cl.on B3.out).rowT R0.out (by decide) (by decide) _, below4 (b2.trans (B3.out.mono b2.size)) (Nat.le_refl _) _⟩
  · have i1 : ((E.2 : Int) != 0) = true := by simp; omega
    go_enter Tryd.func17, Tryd.ntmps17
    go_wp2_with (first
      | (go_at_call 19; rw [HV.out]; refine (new_any V0).mono ?_; rintro e w1 ⟨F, rfl, hF, fa, b1⟩; have N1 : Hid (V0.heap.size ≤ F ∧ FAt F newS w1 ∧ Below V0.heap.size V0 w1) := ⟨hF, fa, b1⟩; clear hF fa b1)
      | (go_at_call 20; refine (put_any F newS p 0 len 0 v w1 N1.out.2.1 (HB.out.1.on N1.out.2.2 (by have := HB.out.2.2.2.2.1; omega)) (by have := HB.out.2.2.2.2.1; have := N1.out.1; omega) (Took.begin p) (Nat.zero_le _) (sliceN_cg (HB.out.2.1.on N1.out.2.2) fun j _ => by rw [Nat.zero_add]) (off_of HB.out.2.1 N1.out.1) HB.out.2.2.1 HB.out.2.2.2.1).mono ?_; rintro e w2 ⟨cv, x, s, c, rfl, cg, ft, tk⟩; obtain ⟨ac, cc, rfl⟩ := ownL_shape cg.own; have P2 : Hid (CG w1.heap.size c x (fun i => cellB p (0 + i)) (.slice ac c cc) w2 ∧ FTo F s w1 w2 ∧ Took p len (0 + c) s) := ⟨cg, ft, tk⟩; clear cg ft tk)
      | (go_at_call 25; refine (end_took F s p len (0 + c) w2 P2.out.2.1.at' P2.out.2.2 HB.out.2.2.1 HB.out.2.2.2.1).mono ?_; rw [hE]; rintro e w3 ⟨rfl, b3⟩; have r0 : w3.heap[V.heap.size]? = some (.cells (bC 0 0 0 (.slice none 0 0)) 26) := (by have l0 := HB.out.2.2.2.2.1; have l1 := N1.out.2.2.size; have l2 := P2.out.2.1.sv.size; rw [b3.block _ (by omega), P2.out.2.1.sv.block _ (by omega) (by have := N1.out.1; omega), N1.out.2.2.block _ l0]; exact HB.out.2.2.2.2.2.2.2); have R0 : Hid (_) := r0; have F3 : Hid (FAt F s w3) := P2.out.2.1.at'.on b3; have B3 : Hid (Below w2.heap.size w2 w3) := b3; clear r0 b3)
      | (refine wpList_ex rfl (execB0 rfl) ?_)
      | (refine atStore 26 (.tmp 2) (.tmp 24) rfl ?_; go_must (refine wpList_exS rfl (execStBt (cv := .slice none 0 0) (rd := 0) (ep := 0) (lf := 0) rfl rfl rfl R0.out rfl) ?_)))
    refine bodyPost_ret (results_cell_tmp2 Tryd.results17 _ _ V.heap.size 26 _ (0, 0) _ rfl (setRow_heap _ _ _ (bC 0 0 0 (.slice none 0 0)) _ _ R0.out) Tryd.underlying26 rfl (sizeB _ _ _ _)) rfl ?_
    obtain ⟨cg, ft, tk⟩ := P2.out
    have o1 : okR p len = false := by unfold okR; rw [hE]; simp; omega
    have r1 : rRound p len = 0 := by unfold rRound; rw [o1]; rfl
    have r2 : rEpoch p len = 0 := by unfold rEpoch; rw [o1]; rfl
    have r3 : rLeft p len = 0 := by unfold rLeft; rw [o1]; rfl
    have r4 : rK p len = 0 := by unfold rK; rw [o1]; rfl
    rw [r1, r2, r3, r4, hE]
    have l1 := N1.out.2.2.size
    have b2 : Below V.heap.size V w2 := HB.out.2.2.2.2.2.1.trans ((N1.out.2.2.mono (by have := HB.out.2.2.2.2.1; omega)).trans (saved_below ft.sv (by have := HB.out.2.2.2.2.1; have := N1.out.1; omega) (by have := HB.out.2.2.2.2.1; omega)))
    exact ⟨_, x, rfl, CL.none _ _ _ _, below4 (b2.trans (B3.out.mono b2.size)) (Nat.le_refl _) _⟩
end Go.Proofs.YtaoncjgllcndmaaDoor.Frm
