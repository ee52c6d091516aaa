import Derived.Test.YtedjoakpbknflaaDoorA9
namespace Go.Proofs.YtedjoakpbknflaaDoor
open Go.RowKit

theorem built27 : (Tryd.prog.built 27 []).getD #[] = hcells (fun _ => 0) (fun _ => 0) 0 := by kernel_rfl
theorem isBuilt27 : (Tryd.prog.built 27 []).isSome = true := by kernel_rfl
theorem wpList_build27 {ops : Array Oper} {rest : List Oper} {o : Oper} {a : Act} {w : World} {Q : Exit → Act → World → Prop} (hg : o.guard = none) (ho : o.op = .build 27 #[])
    (h : wpList Tryd.prog ops Q rest (a.put o.dst (.agg (hcells (fun _ => 0) (fun _ => 0) 0))) w) : wpList Tryd.prog ops Q (o :: rest) a w := by
  have e0 : ((#[] : Array (Nat × Operand)).map fun (i, x) => (i, a.eval x)).toList = [] := by simp
  refine wpList_build hg 27 #[] ho (by rw [e0]; exact isBuilt27) ?_
  rw [e0, built27]
  exact h

set_option maxHeartbeats 400000 in
theorem new_any (w : World) :
    Calls Tryd.prog 13 #[] w fun e w' => e = .returned (.agg HS.new.cells) ∧ Below w.heap.size w w' := by
  have z27 := zero27
  go_enter Tryd.func13, Tryd.ntmps13
  go_wp2_with (first
    | (refine wpList_build27 rfl rfl ?_; simp only [Act.put, List.setIfInBounds_toArray, List.set_cons_succ, List.set_cons_zero])
    | (refine isStore 27 (.tmp 0) (.tmp 1) rfl ?_; refine wpList_store_row rfl 27 (.tmp 0) (.tmp 1) rfl w.heap.size _ rfl rfl 27 _ (heap_alloc_new _ _) (size27' _ _ _) (by simp only [hc_size]) (hc_one _ _ _) ?_))
  refine bodyPost_ret (v := .agg HS.new.cells) (results_cell_row Tryd.results13 _ _ w.heap.size 27 _ (0, 0) _ rfl (setRow_heap _ _ _ _ _ _ (heap_alloc_new _ _)) Tryd.underlying27 rfl (size27' _ _ _)) rfl ⟨rfl, ?_⟩
  exact below_setRow ((Below.refl _ _).alloc (Nat.le_refl _) _) (Nat.le_refl _) _

/-- The digest of what was taken in. -/
def sumD (s : HS) : Nat → Int := digB (stW (padG s.g s.r s.n))

theorem zero28 : ∀ w, (zeroValue 28).run Tryd.prog w = .ok (.agg (tab8 32 (fun _ => 0))) w :=
  (zero_of_info (n := 32) (by kernel_rfl)).1

set_option maxHeartbeats 400000 in
theorem hsum_any (s : HS) (w : World) (hG : Glob w) (hs : s.ok) :
    Calls Tryd.prog 11 #[.agg s.cells] w fun e w' => e = .returned (.agg (tab8 32 (sumD s))) ∧ Below w.heap.size w w' := by
  have HG : Hid (_) := hG
  have HS' : Hid (_) := hs
  clear hG hs
  obtain ⟨g, r, n⟩ := s
  show Calls Tryd.prog 11 #[.agg (hcells g r n)] w fun e w' => e = .returned (.agg (tab8 32 (sumD ⟨g, r, n⟩))) ∧ Below w.heap.size w w'
  have z28 := zero28
  have hz2 := heap2 w (.cells (hcells g r n) 27) (.cells (tab8 32 (fun _ => 0)) 28)
  have HZ : Hid (_) := hz2
  clear hz2
  go_enter Tryd.func11, Tryd.ntmps11
  go_wp2_with (first
    | (refine isLoad 27 (.tmp 1) rfl ?_; refine wpList_load_row rfl 27 (.tmp 1) rfl w.heap.size rfl 27 _ (0, 0) _ HZ.out.1 Tryd.underlying27 rfl (size27' _ _ _) ?_; simp only [Act.put, List.setIfInBounds_toArray, List.set_cons_succ, List.set_cons_zero]))
  have hVB : Below w.heap.size w ((w.alloc (.cells (hcells g r n) 27)).alloc (.cells (tab8 32 (fun _ => 0)) 28)) := ((Below.refl _ _).alloc (Nat.le_refl _) _).alloc (by simp) _
  have HV : Hid (_) := hVB
  clear hVB
  refine (padded_any g r n _ (HG.out.below HV.out HG.out.sz) HS'.out.1 HS'.out.2).mono ?_
  rintro e w1 ⟨rfl, hb1⟩
  have HB1 : Hid (Below (w.heap.size + 2) ((w.alloc (.cells (hcells g r n) 27)).alloc (.cells (tab8 32 (fun _ => 0)) 28)) w1) := by
    have hsz : ((w.alloc (.cells (hcells g r n) 27)).alloc (.cells (tab8 32 (fun _ => 0)) 28)).heap.size = w.heap.size + 2 := by simp
    rw [← hsz]; exact hb1
  clear hb1
  have G1 : Hid (Glob w1) := (HG.out.below HV.out HG.out.sz).below HB1.out (by omega)
  go_wp2_with fail
  refine (state_any _ (padG g r n) hW _ G1.out.sz G1.out.h (hc_g _ _ _)).mono ?_
  rintro e w2 ⟨rfl, hb2⟩
  have HB2 : Hid (_) := hb2
  clear hb2
  go_wp2_with fail
  refine (digest_any _ (stW (padG g r n)) _ (tab32_get 8 _)).mono ?_
  rintro e w3 ⟨rfl, hb3⟩
  have hs1 : w.heap.size + 2 ≤ w1.heap.size := by have := HB1.out.size; simpa using this
  have hs2 := HB2.out.size
  have hs3 := hb3.size
  have hbb : Below (w.heap.size + 2) ((w.alloc (.cells (hcells g r n) 27)).alloc (.cells (tab8 32 (fun _ => 0)) 28)) w3 := (HB1.out.trans (HB2.out.mono hs1)).trans (hb3.mono (by omega))
  have hr3 : w3.heap[w.heap.size + 1]? = some (.cells (tab8 32 (fun _ => 0)) 28) := by rw [hbb.block _ (by omega)]; exact HZ.out.2
  have hB3 : Below w.heap.size w w3 := HV.out.trans (hbb.mono (by omega))
  have HR3 : Hid (_) := hr3
  have H3 : Hid (_) := hB3
  clear hr3 hB3 hbb hs1 hs2 hs3 hb3 HB1 HB2 HZ HV z28
  go_wp2_with (first
    | (refine isStore 28 (.tmp 2) (.tmp 6) rfl ?_; refine wpList_store_row rfl 28 (.tmp 2) (.tmp 6) rfl (w.heap.size + 1) _ rfl rfl 28 _ HR3.out (size28' _) (by simp only [tab8_size]) (tab8_one _ _) ?_))
  refine bodyPost_ret (v := .agg (tab8 32 (sumD ⟨g, r, n⟩))) (results_cell_row Tryd.results11 _ _ (w.heap.size + 1) 28 _ (0, 0) _ rfl (setRow_heap _ _ _ _ _ _ HR3.out) Tryd.underlying28 rfl (size28' _)) rfl ⟨rfl, ?_⟩
  exact below_setRow H3.out (by omega) _
end Go.Proofs.YtedjoakpbknflaaDoor
