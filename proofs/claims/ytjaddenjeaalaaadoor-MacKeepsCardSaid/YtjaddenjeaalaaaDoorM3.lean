import Derived.Test.YtjaddenjeaalaaaDoorM2
namespace Go.Proofs.YtjaddenjeaalaaaDoor
open Go.RowKit

/-- The two hashes of a key. -/
def inS (p : Nat → Int) (l : Nat) : HS := addN HS.new (xk (kB p l) 54) 64
def outS (p : Nat → Int) (l : Nat) : HS := addN HS.new (xk (kB p l) 92) 64
theorem ok_inS (p : Nat → Int) (l : Nat) : (inS p l).ok := ok_addN ok_new fun _ _ => bits_bd _ _
theorem ok_outS (p : Nat → Int) (l : Nat) : (outS p l).ok := ok_addN ok_new fun _ _ => bits_bd _ _
theorem inS_n (p : Nat → Int) (l : Nat) : (inS p l).n = 64 := by unfold inS; rw [addN_n]; simp [HS.new]
theorem outS_n (p : Nat → Int) (l : Nat) : (outS p l).n = 64 := by unfold outS; rw [addN_n]; simp [HS.new]
theorem wpList_build52 {ops : Array Oper} {rest : List Oper} {o : Oper} {a : Act} {w : World} {Q : Exit → Act → World → Prop} {s t : HS} {x y : Operand} (hg : o.guard = none) (ho : o.op = .build 52 #[(0, x), (1, y)])
    (hx : a.eval x = .agg s.cells) (hy : a.eval y = .agg t.cells)
    (h : wpList Tryd.prog ops Q rest (a.put o.dst (.agg (kc s t))) w) : wpList Tryd.prog ops Q (o :: rest) a w := by
  have e0 : ((#[(0, x), (1, y)] : Array (Nat × Operand)).map fun (i, x) => (i, a.eval x)).toList = [(0, .agg s.cells), (1, .agg t.cells)] := by simp [hx, hy]
  refine wpList_build hg 52 #[(0, x), (1, y)] ho (by rw [e0, built52]; rfl) ?_
  rw [e0, built52]
  exact h

/-- What each operation of keyedBy's region yields. -/
def kbS (K : Nat → Int) (s t : HS) (j : Nat) (v : Value) (w : World) : Prop :=
  match j with
  | 0 => v = .agg HS.new.cells
  | 1 => v = .agg (tab8 64 K)
  | 2 => SliceB w v 64 (xk K 54)
  | 3 => v = .agg s.cells
  | 4 => v = .agg HS.new.cells
  | 5 => v = .agg (tab8 64 K)
  | 6 => SliceB w v 64 (xk K 92)
  | _ => v = .agg t.cells
theorem kbS_mono (K : Nat → Int) (s t : HS) (j : Nat) (v : Value) (w w' : World) (h : kbS K s t j v w) (hb : Below w.heap.size w w') : kbS K s t j v w' := by
  match j, h with
  | 0, h => exact h
  | 1, h => exact h
  | 2, h => exact SliceB.below h hb
  | 3, h => exact h
  | 4, h => exact h
  | 5, h => exact h
  | 6, h => exact SliceB.below h hb
  | _ + 7, h => exact h

set_option maxHeartbeats 800000 in
theorem keyedBy_any (v : Value) (len : Nat) (p : Nat → Int) (w : World) (hG : Glob w) (hbig : len < 1152921504606846976) (hv : SliceB w v len p) :
    Calls Tryd.prog 27 #[v] w fun e w' => e = .returned (.agg (kc (inS p len) (outS p len))) ∧ Below w.heap.size w w' := by
  have HG : Hid (_) := hG
  have H0 : Hid (_) := hv
  have H3 : Hid (_) := hbig
  clear hG hv hbig
  have z52 := zero52
  have z24 := zero24
  go_enter Tryd.func27, Tryd.ntmps27
  go_wp2_with fail
  have b0 : Below w.heap.size w (w.alloc (.cells (kc HS.new HS.new) 52)) := (Below.refl _ _).alloc (Nat.le_refl _) _
  have B0 : Hid (_) := b0
  clear b0
  obtain ⟨K, hK⟩ : ∃ K, K = kB p len := ⟨_, rfl⟩
  have hs := keyBlock_any v len p _ (HG.out.below B0.out HG.out.sz) H3.out (H0.out.below B0.out)
  rw [← hK] at hs
  refine hs.mono ?_
  rintro e w1 ⟨rfl, hb1⟩
  have HK : Hid (_) := hK
  have B1 : Hid (Below (w.heap.size + 1) (w.alloc (.cells (kc HS.new HS.new) 52)) w1) := by
    have hsz : (w.alloc (.cells (kc HS.new HS.new) 52)).heap.size = w.heap.size + 1 := by simp
    rw [← hsz]; exact hb1
  have R0 : Hid (w1.heap[w.heap.size]? = some (.cells (kc HS.new HS.new) 52)) := by rw [B1.out.block _ (by omega)]; exact heap_alloc_new _ _
  have W1 : Hid (Below w.heap.size w w1) := B0.out.trans (B1.out.mono (by omega))
  have N1 : Hid (w.heap.size + 1 ≤ w1.heap.size) := by show w.heap.size + 1 ≤ w1.heap.size; have := B1.out.size; simpa using this
  clear hs hb1 hK B0 B1
  go_wp2_with (first
    | (refine isStore 47 (.tmp 3) (.tmp 5) rfl ?_; go_must (refine wpList_store_row rfl 47 (.tmp 3) (.tmp 5) rfl w1.heap.size _ rfl rfl 47 _ (heap_alloc_new _ _) (size24' _) (by simp only [tab8_size]) (tab8_one _ _) ?_; rw [World.setRow_alloc_new]; simp only [Act.put])))
  obtain ⟨G, hGd⟩ : ∃ G, G = w1.heap.size := ⟨_, rfl⟩
  obtain ⟨V, hV⟩ : ∃ V, V = w1.alloc (.cells (tab8 64 K) 47) := ⟨_, rfl⟩
  have VG : Hid (V.heap[G]? = some (.cells (tab8 64 K) 47)) := by rw [hV, hGd]; exact heap_alloc_new _ _
  have V0 : Hid (V.heap[w.heap.size]? = some (.cells (kc HS.new HS.new) 52)) := by rw [hV, Below.heap_alloc _ _ _ (by have := N1.out; omega)]; exact R0.out
  have VW : Hid (Below w.heap.size w V) := by rw [hV]; exact W1.out.alloc W1.out.size _
  rw [← hV, ← hGd]
  clear hV hGd W1 R0 N1 z52 z24
  have LG : G < V.heap.size := (Array.getElem?_eq_some_iff.1 VG.out).1
  have L0 : w.heap.size < V.heap.size := (Array.getElem?_eq_some_iff.1 V0.out).1
  have e1 : addN HS.new (xk K 54) 64 = inS p len := by rw [HK.out]; rfl
  have e2 : addN HS.new (xk K 92) 64 = outS p len := by rw [HK.out]; rfl
  refine wp_region_slots 8 (fun x => { tmps := #[v, undef, .pointer (some ⟨w.heap.size, 0, none⟩), .pointer (some ⟨G, 0, none⟩), v, .agg (tab8 64 K), x 0, x 1, x 2, x 3, x 4, x 5, x 6, x 7, undef], defers := [] })
    (kbS K (inS p len) (outS p len)) (by kernel_rfl) (by kernel_rfl) (by kernel_rfl) (by decide) (kbS_mono _ _ _) (fun _ => undef) rfl ?_ ?_
  · intro j hj x W hB hdep
    have gG : W.heap[G]? = some (.cells (tab8 64 K) 47) := by rw [hB.block _ LG]; exact VG.out
    have gW : Glob W := HG.out.below (VW.out.trans (hB.mono VW.out.size)) HG.out.sz
    match j, hj with
    | 0, _ => exact stepC rfl rfl (execCall0 Tryd.func30 (by kernel_rfl) (by kernel_rfl) rfl) (new_any W) fun e w' h => ⟨_, h.1, _, rfl, rfl, h.2⟩
    | 1, _ => exact stepV rfl rfl (execLoadRow rfl rfl gG Tryd.underlying47 rfl (size24' _)) ⟨_, rfl, rfl, Below.refl _ _⟩
    | 2, _ =>
      have h1 : x 1 = .agg (tab8 64 K) := hdep _ rfl 1 rfl
      refine stepC rfl rfl (execCall2 Tryd.func37 (by kernel_rfl) (by kernel_rfl) rfl h1 rfl) (masked_any K 54 W) fun e w' ⟨u, h2, h3, h4⟩ => ⟨u, h2, _, rfl, h3, h4⟩
    | 3, _ =>
      have h0 : x 0 = .agg HS.new.cells := hdep _ rfl 0 rfl
      have h2 : SliceB W (x 2) 64 (xk K 54) := hdep _ rfl 2 rfl
      refine stepC rfl rfl (execCall2 Tryd.func31 (by kernel_rfl) (by kernel_rfl) rfl h0 rfl) (add_any HS.new (x 2) 64 (xk K 54) W gW ok_new (by simp [HS.new]) h2) fun e w' h => ⟨_, h.1, _, rfl, by rw [e1]; rfl, h.2⟩
    | 4, _ => exact stepC rfl rfl (execCall0 Tryd.func30 (by kernel_rfl) (by kernel_rfl) rfl) (new_any W) fun e w' h => ⟨_, h.1, _, rfl, rfl, h.2⟩
    | 5, _ => exact stepV rfl rfl (execLoadRow rfl rfl gG Tryd.underlying47 rfl (size24' _)) ⟨_, rfl, rfl, Below.refl _ _⟩
    | 6, _ =>
      have h1 : x 5 = .agg (tab8 64 K) := hdep _ rfl 5 rfl
      refine stepC rfl rfl (execCall2 Tryd.func37 (by kernel_rfl) (by kernel_rfl) rfl h1 rfl) (masked_any K 92 W) fun e w' ⟨u, h2, h3, h4⟩ => ⟨u, h2, _, rfl, h3, h4⟩
    | 7, _ =>
      have h0 : x 4 = .agg HS.new.cells := hdep _ rfl 4 rfl
      have h2 : SliceB W (x 6) 64 (xk K 92) := hdep _ rfl 6 rfl
      refine stepC rfl rfl (execCall2 Tryd.func31 (by kernel_rfl) (by kernel_rfl) rfl h0 rfl) (add_any HS.new (x 6) 64 (xk K 92) W gW ok_new (by simp [HS.new]) h2) fun e w' h => ⟨_, h.1, _, rfl, by rw [e2]; rfl, h.2⟩
  · intro x W hB hS
    have h3 : x 3 = .agg (inS p len).cells := hS 3 (by omega)
    have h7 : x 7 = .agg (outS p len).cells := hS 7 (by omega)
    have g0 : W.heap[w.heap.size]? = some (.cells (kc HS.new HS.new) 52) := by rw [hB.block _ L0]; exact V0.out
    have gW : Below w.heap.size w W := VW.out.trans (hB.mono VW.out.size)
    simp only [List.drop_succ_cons, List.drop_zero]
    refine wpList_build52 (s := inS p len) (t := outS p len) (x := .tmp 9) (y := .tmp 13) rfl rfl h3 h7 ?_
    refine wpList_store_row rfl 52 (.tmp 2) (.tmp 14) rfl w.heap.size _ rfl rfl 52 _ g0 (size52' _ _) (by simp only [kc_size]) (kc_one _ _) ?_
    simp only [Act.put, List.setIfInBounds_toArray, List.set_cons_succ, List.set_cons_zero]
    have R0 : Hid (_) := g0
    have RW : Hid (_) := gW
    clear g0 gW hB hS h3 h7
    go_wp2
    refine bodyPost_ret (v := .agg (kc (inS p len) (outS p len))) (results_cell_row Tryd.results27 _ _ w.heap.size 52 _ (0, 0) _ rfl (setRow_heap _ _ _ _ _ _ R0.out) Tryd.underlying52 rfl (size52' _ _)) rfl ⟨rfl, ?_⟩
    exact below_setRow RW.out (Nat.le_refl _) _
end Go.Proofs.YtjaddenjeaalaaaDoor
