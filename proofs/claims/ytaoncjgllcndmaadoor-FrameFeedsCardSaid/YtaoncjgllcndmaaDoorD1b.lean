import Derived.Test.YtaoncjgllcndmaaDoorD1d
import Derived.Test.YtaoncjgllcndmaaDoorD1a
namespace Go.Proofs.YtaoncjgllcndmaaDoor.Frm
open Go.RowKit Gf8 Aes By8 Cel
/- The reference's Pack. -/

set_option maxRecDepth 20000 in
set_option maxHeartbeats 1000000 in
theorem rpack_bad (rd ep lf : Int) (cv : Value) (V : World) (hb : hdOk rd ep lf = false) :
    Calls Tryd.prog 12 #[.agg (bC rd ep lf cv)] V fun e w' => e = .returned (.tuple #[.slice none 0 0, .int .i64 62]) ∧ Below V.heap.size V w' := by
  have z := zeroH
  have ps := ps_new V rd ep lf cv
  obtain ⟨W0, hW0⟩ : ∃ W0, ((V.alloc (.cells (bC rd ep lf cv) 26)).alloc (.cells (hC 0 0 0) 23)).setRow (V.heap.size + 1) (hC rd ep lf) = W0 := ⟨_, rfl⟩
  rw [hW0] at ps
  obtain ⟨k3, k0, k1, k2⟩ := ps.cells
  have PSH : Hid (_) := ps
  have HW : Hid (_) := hW0
  clear ps hW0
  by_cases c1 : lf < 0
  · clear hb
    go_enter Tryd.func12, Tryd.ntmps12
    go_wp2_with (first
      | (refine atLoad 23 (.tmp 8) rfl ?_; go_must (refine wpList_ex rfl (execLoadMid (cs := [.int .i64 rd, .int .i64 ep, .int .i64 lf]) rfl rfl (range_bh (heapNew V _)) Tryd.underlying23 rfl (by kernel_rfl)) ?_))
      | (refine atStore 23 (.tmp 4) (.tmp 9) rfl ?_; go_must (refine wpList_exS rfl (execStHd (rd := rd) (ep := ep) (lf := lf) rfl rfl rfl (heap2c V _ _).2) ?_; rw [HW.out])))
    refine bodyPost_ret (results_tmp2 rfl _ _ _) rfl ⟨rfl, PSH.out.bel⟩
  · by_cases c2 : lf > 8
    · clear hb
      go_enter Tryd.func12, Tryd.ntmps12
      go_wp2_with (first
        | (refine atLoad 23 (.tmp 8) rfl ?_; go_must (refine wpList_ex rfl (execLoadMid (cs := [.int .i64 rd, .int .i64 ep, .int .i64 lf]) rfl rfl (range_bh (heapNew V _)) Tryd.underlying23 rfl (by kernel_rfl)) ?_))
        | (refine atStore 23 (.tmp 4) (.tmp 9) rfl ?_; go_must (refine wpList_exS rfl (execStHd (rd := rd) (ep := ep) (lf := lf) rfl rfl rfl (heap2c V _ _).2) ?_; rw [HW.out])))
      refine bodyPost_ret (results_tmp2 rfl _ _ _) rfl ⟨rfl, PSH.out.bel⟩
    · by_cases c3 : rd < 0
      · clear hb
        go_enter Tryd.func12, Tryd.ntmps12
        go_wp2_with (first
          | (refine atLoad 23 (.tmp 8) rfl ?_; go_must (refine wpList_ex rfl (execLoadMid (cs := [.int .i64 rd, .int .i64 ep, .int .i64 lf]) rfl rfl (range_bh (heapNew V _)) Tryd.underlying23 rfl (by kernel_rfl)) ?_))
          | (refine atStore 23 (.tmp 4) (.tmp 9) rfl ?_; go_must (refine wpList_exS rfl (execStHd (rd := rd) (ep := ep) (lf := lf) rfl rfl rfl (heap2c V _ _).2) ?_; rw [HW.out])))
        refine bodyPost_ret (results_tmp2 rfl _ _ _) rfl ⟨rfl, PSH.out.bel⟩
      · by_cases c4 : rd ≥ 4611686018427387904
        · clear hb
          go_enter Tryd.func12, Tryd.ntmps12
          go_wp2_with (first
            | (refine atLoad 23 (.tmp 8) rfl ?_; go_must (refine wpList_ex rfl (execLoadMid (cs := [.int .i64 rd, .int .i64 ep, .int .i64 lf]) rfl rfl (range_bh (heapNew V _)) Tryd.underlying23 rfl (by kernel_rfl)) ?_))
            | (refine atStore 23 (.tmp 4) (.tmp 9) rfl ?_; go_must (refine wpList_exS rfl (execStHd (rd := rd) (ep := ep) (lf := lf) rfl rfl rfl (heap2c V _ _).2) ?_; rw [HW.out])))
          refine bodyPost_ret (results_tmp2 rfl _ _ _) rfl ⟨rfl, PSH.out.bel⟩
        · by_cases c5 : ep < 0
          · clear hb
            go_enter Tryd.func12, Tryd.ntmps12
            go_wp2_with (first
              | (refine atLoad 23 (.tmp 8) rfl ?_; go_must (refine wpList_ex rfl (execLoadMid (cs := [.int .i64 rd, .int .i64 ep, .int .i64 lf]) rfl rfl (range_bh (heapNew V _)) Tryd.underlying23 rfl (by kernel_rfl)) ?_))
              | (refine atStore 23 (.tmp 4) (.tmp 9) rfl ?_; go_must (refine wpList_exS rfl (execStHd (rd := rd) (ep := ep) (lf := lf) rfl rfl rfl (heap2c V _ _).2) ?_; rw [HW.out])))
            refine bodyPost_ret (results_tmp2 rfl _ _ _) rfl ⟨rfl, PSH.out.bel⟩
          · by_cases c6 : ep > 4611686018427387904
            · clear hb
              go_enter Tryd.func12, Tryd.ntmps12
              go_wp2_with (first
                | (refine atLoad 23 (.tmp 8) rfl ?_; go_must (refine wpList_ex rfl (execLoadMid (cs := [.int .i64 rd, .int .i64 ep, .int .i64 lf]) rfl rfl (range_bh (heapNew V _)) Tryd.underlying23 rfl (by kernel_rfl)) ?_))
                | (refine atStore 23 (.tmp 4) (.tmp 9) rfl ?_; go_must (refine wpList_exS rfl (execStHd (rd := rd) (ep := ep) (lf := lf) rfl rfl rfl (heap2c V _ _).2) ?_; rw [HW.out])))
              refine bodyPost_ret (results_tmp2 rfl _ _ _) rfl ⟨rfl, PSH.out.bel⟩
            · exfalso
              unfold hdOk at hb
              simp at hb
              omega
end Go.Proofs.YtaoncjgllcndmaaDoor.Frm
