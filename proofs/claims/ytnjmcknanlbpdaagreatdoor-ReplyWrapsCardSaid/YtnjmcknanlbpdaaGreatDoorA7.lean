import Derived.Test.YtnjmcknanlbpdaaGreatDoorA5
namespace Go.Proofs.YtnjmcknanlbpdaaGreatDoor
open Go.RowKit

theorem size28 : (Tryz.prog.info? 57).map (·.size) = some 32 := by kernel_rfl
theorem size28' (f : Nat → Int) : (Tryz.prog.info? 57).map (·.size) = some (tab8 32 f).size := by rw [tab8_size]; exact size28
/-- The digest's byte i of the words s. -/
def digB (s : Nat → Int) (i : Nat) : Int := s (i / 4) / 2 ^ (24 - 8 * (i % 4)) % 256

set_option maxHeartbeats 400000 in
theorem digest_any (c : Array Value) (s : Nat → Int) (w : World)
    (hs : ∀ i : Nat, i < 8 → c[i]? = some (.int .u32 (s i))) :
    Calls Tryz.prog 92 #[.agg c] w fun e w' => e = .returned (.agg (tab8 32 (digB s))) ∧ Below w.heap.size w w' := by
  go_enter Tryz.func92, Tryz.ntmps92
  go_wp2
  rw [show w.heap.size + 1 + 1 = w.heap.size + 2 from rfl]
  go_loopw [5] (fun i W => ∃ k : Nat, k ≤ 32 ∧ i = .int .i64 k ∧ W = (((w.alloc (.cells c 81)).alloc (.cells (tab8 32 (upto (fun _ => 0) 0)) 57)).alloc (.cells (tab8 32 (upto (digB s) k)) 57)).drewN 0) (fun i _ => 32 - (intOf i).toNat)
  case atStart => exact ⟨0, by omega, rfl, by kernel_rfl⟩
  case round =>
    obtain ⟨k, hk, rfl, rfl⟩ := hrel
    by_cases hlt : k < 32
    · have h2 := hs (k / 4) (by omega)
      have h3 := tab8_get 32 (upto (digB s) k) k hlt
      clear hs
      go_wp2
      refine ⟨⟨k + 1, by omega, by go_num, ?_⟩, by simp [intOf]; omega⟩
      rw [setTop3, tab8_set]
      exact congrArg (fun f => (((w.alloc (Obj.cells c 81)).alloc (Obj.cells (tab8 32 (upto (fun _ => 0) 0)) 57)).alloc (Obj.cells (tab8 32 f) 57)).drewN 0) (upd_upto (digB s) k)
    · have hb := heap3 w (.cells c 81) (.cells (tab8 32 (upto (fun _ => 0) 0)) 57) (.cells (tab8 32 (upto (digB s) k)) 57) 0
      have hbl := below3 w (.cells c 81) (.cells (tab8 32 (upto (fun _ => 0) 0)) 57) (.cells (tab8 32 (upto (digB s) k)) 57) 0
      have HB : Hid (_) := hb
      have HL : Hid (_) := hbl
      clear hb hbl hs
      go_wp2_with (first
        | refine wpList_load_row rfl 57 _ rfl _ rfl _ _ (0, 0) _ HB.out.2.2 Tryz.underlying57 rfl (size28' _) ?_
        | refine wpList_store_row rfl 57 _ _ rfl _ _ rfl rfl _ _ HB.out.2.1 (size28' _) (by simp only [tab8_size]) (tab8_one _ _) ?_)
      refine bodyPost_ret (v := .agg (tab8 32 (upto (digB s) k))) (results_cell_row Tryz.results92 _ _ _ _ _ (0, 0) _ rfl (setRow_heap _ _ _ _ _ _ HB.out.2.1) Tryz.underlying57 rfl (size28' _)) rfl ⟨?_, ?_⟩
      · rw [tab8_congr (n := 32)]
        intro i hi
        simp [upto, show i < k by omega]
      · exact below_setRow HL.out (by omega) _
end Go.Proofs.YtnjmcknanlbpdaaGreatDoor

namespace Go.Proofs.YtnjmcknanlbpdaaGreatDoor
open Go.RowKit

def hList : List Int := [1779033703, 3144134277, 1013904242, 2773480762, 1359893119, 2600822924, 528734635, 1541459225]
def kList : List Int := [1116352408, 1899447441, 3049323471, 3921009573, 961987163, 1508970993, 2453635748, 2870763221, 3624381080, 310598401, 607225278, 1426881987, 1925078388, 2162078206, 2614888103, 3248222580, 3835390401, 4022224774, 264347078, 604807628, 770255983, 1249150122, 1555081692, 1996064986, 2554220882, 2821834349, 2952996808, 3210313671, 3336571891, 3584528711, 113926993, 338241895, 666307205, 773529912, 1294757372, 1396182291, 1695183700, 1986661051, 2177026350, 2456956037, 2730485921, 2820302411, 3259730800, 3345764771, 3516065817, 3600352804, 4094571909, 275423344, 430227734, 506948616, 659060556, 883997877, 958139571, 1322822218, 1537002063, 1747873779, 1955562222, 2024104815, 2227730452, 2361852424, 2428436474, 2756734187, 3204031479, 3329325298]
def hW (i : Nat) : Int := hList.getD i 0
def kW (i : Nat) : Int := kList.getD i 0

/-- The two tables lie in their blocks. -/
structure Glob (w : World) : Prop where
  sz : 1 < w.heap.size
  h : ∀ i : Nat, i < 8 → w.cell? ⟨0, i, none⟩ = some (.int .u32 (hW i))
  k : ∀ i : Nat, i < 64 → w.cell? ⟨1, i, none⟩ = some (.int .u32 (kW i))
theorem Glob.below {w w' : World} {B : Nat} (g : Glob w) (h : Below B w w') (hB : 1 + 1 ≤ B) : Glob w' :=
  ⟨by have := h.size; have := g.sz; omega, fun i hi => by rw [below_cell h (by omega)]; exact g.h i hi, fun i hi => by rw [below_cell h (by omega)]; exact g.k i hi⟩

/-- A hash's cells. -/
def hcells (g r : Nat → Int) (n : Int) : Array Value := tab32 8 g ++ tab8 64 r ++ #[.int .u64 n]
theorem hc_size (g r : Nat → Int) (n : Int) : (hcells g r n).size = 73 := by simp [hcells, tab32_size, tab8_size]
theorem hc_g (g r : Nat → Int) (n : Int) (i : Nat) (h : i < 8) : (hcells g r n)[i]? = some (.int .u32 (g i)) := by
  unfold hcells
  rw [Array.getElem?_append_left (by simp [tab32_size, tab8_size]; omega), Array.getElem?_append_left (by simp [tab32_size]; omega)]
  exact tab32_get 8 g i h
theorem hc_r (g r : Nat → Int) (n : Int) (i : Nat) (h : i < 64) : (hcells g r n)[8 + i]? = some (.int .u8 (r i)) := by
  unfold hcells
  rw [Array.getElem?_append_left (by simp [tab32_size, tab8_size]; omega), Array.getElem?_append_right (by simp [tab32_size])]
  simp only [tab32_size, Nat.add_sub_cancel_left]
  exact tab8_get 64 r i h
theorem hc_n (g r : Nat → Int) (n : Int) : (hcells g r n)[72]? = some (.int .u64 n) := by
  unfold hcells
  rw [Array.getElem?_append_right (by simp [tab32_size, tab8_size])]
  simp [tab32_size, tab8_size]
/-- Which place is it? -/
theorem hc_ext {g' r' : Nat → Int} {n' : Int} {c : Array Value} (hs : c.size = 73) (hg : ∀ i, i < 8 → c[i]? = some (.int .u32 (g' i))) (hr : ∀ i, i < 64 → c[8 + i]? = some (.int .u8 (r' i))) (hn : c[72]? = some (.int .u64 n')) : c = hcells g' r' n' := by
  apply Array.ext_getElem?
  intro i
  by_cases h1 : i < 8
  · rw [hg i h1, hc_g _ _ _ i h1]
  · by_cases h2 : i < 72
    · obtain ⟨j, rfl⟩ : ∃ j, i = 8 + j := ⟨i - 8, by omega⟩
      rw [hr j (by omega), hc_r _ _ _ j (by omega)]
    · by_cases h3 : i = 72
      · subst h3; rw [hn, hc_n]
      · rw [Array.getElem?_eq_none (by omega), Array.getElem?_eq_none (by rw [hc_size]; omega)]
theorem hc_set_g (g r : Nat → Int) (n : Int) (k : Nat) (v : Int) (hk : k < 8) : (hcells g r n).setIfInBounds k (.int .u32 v) = hcells (upd g k v) r n := by
  refine hc_ext (by simp [hc_size]) ?_ ?_ ?_
  · intro i hi
    rw [Array.getElem?_setIfInBounds]
    by_cases h : k = i
    · subst h; simp [hc_size, upd, show k < 73 by omega]
    · rw [if_neg h, hc_g _ _ _ i hi]; simp [upd, show ¬ i = k from fun e => h e.symm]
  · intro i hi
    rw [Array.getElem?_setIfInBounds, if_neg (by omega), hc_r _ _ _ i hi]
  · rw [Array.getElem?_setIfInBounds, if_neg (by omega), hc_n]
theorem hc_set_r (g r : Nat → Int) (n : Int) (k : Nat) (v : Int) (hk : k < 64) : (hcells g r n).setIfInBounds (8 + k) (.int .u8 v) = hcells g (upd r k v) n := by
  refine hc_ext (by simp [hc_size]) ?_ ?_ ?_
  · intro i hi
    rw [Array.getElem?_setIfInBounds, if_neg (by omega), hc_g _ _ _ i hi]
  · intro i hi
    rw [Array.getElem?_setIfInBounds]
    by_cases h : k = i
    · subst h; simp [hc_size, upd, show 8 + k < 73 by omega]
    · rw [if_neg (by omega), hc_r _ _ _ i hi]; simp [upd, show ¬ i = k from fun e => h e.symm]
  · rw [Array.getElem?_setIfInBounds, if_neg (by omega), hc_n]
theorem hc_set_n (g r : Nat → Int) (n v : Int) : (hcells g r n).setIfInBounds 72 (.int .u64 v) = hcells g r v := by
  refine hc_ext (by simp [hc_size]) ?_ ?_ ?_
  · intro i hi
    rw [Array.getElem?_setIfInBounds, if_neg (by omega), hc_g _ _ _ i hi]
  · intro i hi
    rw [Array.getElem?_setIfInBounds, if_neg (by omega), hc_r _ _ _ i hi]
  · rw [Array.getElem?_setIfInBounds]; simp [hc_size]
theorem hc_one (g r : Nat → Int) (n : Int) : (hcells g r n).all (·.oneCell') = true := by
  simp only [hcells, Array.all_append, tab32_one, tab8_one]
  simp [Value.oneCell']
theorem size27' (g r : Nat → Int) (n : Int) : (Tryz.prog.info? 85).map (·.size) = some (hcells g r n).size := by rw [hc_size]; kernel_rfl

/-- cells laid over others from a place on -/
def splice (c : Array Value) : Nat → List Value → Array Value
  | _, [] => c
  | o, v :: vs => splice (c.setIfInBounds o v) (o + 1) vs
theorem splice_size (vs : List Value) : ∀ (c : Array Value) (o : Nat), (splice c o vs).size = c.size := by
  induction vs with
  | nil => intro c o; rfl
  | cons v vs ih => intro c o; simp only [splice]; rw [ih]; simp
theorem splice_get (vs : List Value) : ∀ (c : Array Value) (o i : Nat), o + vs.length ≤ c.size → (splice c o vs)[i]? = if o ≤ i ∧ i < o + vs.length then vs[i - o]? else c[i]? := by
  induction vs with
  | nil => intro c o i h; simp only [splice, List.length_nil]; rw [if_neg (by omega)]
  | cons v vs ih =>
    intro c o i h
    simp only [splice, List.length_cons] at h ⊢
    rw [ih _ _ _ (by simp; omega)]
    by_cases h1 : i = o
    · subst h1
      rw [if_neg (by omega), if_pos (by omega)]
      simp [show i < c.size by omega]
    · by_cases h2 : o + 1 ≤ i ∧ i < o + 1 + vs.length
      · rw [if_pos h2, if_pos (by omega)]
        obtain ⟨j, rfl⟩ : ∃ j, i = o + 1 + j := ⟨i - (o + 1), by omega⟩
        rw [show o + 1 + j - (o + 1) = j by omega, show o + 1 + j - o = j + 1 by omega]
        rfl
      · rw [if_neg h2, if_neg (by omega), Array.getElem?_setIfInBounds, if_neg (fun e => h1 e.symm)]
theorem heap_setCells (vs : List Value) : ∀ (W : World) (b o : Nat) (c : Array Value) (t : TypeId) (fr : Nat × Nat), W.heap[b]? = some (.cells c t fr) → (W.setCells b o vs).heap[b]? = some (.cells (splice c o vs) t fr) ∧ Below b W (W.setCells b o vs) ∧ (W.setCells b o vs).heap.size = W.heap.size := by
  induction vs with
  | nil => intro W b o c t fr h; exact ⟨h, Below.refl _ _, rfl⟩
  | cons v vs ih =>
    intro W b o c t fr h
    rw [World.setCells]
    have e := setCell_eq_setRow W b o c t fr v h
    have h2 : (W.setCell ⟨b, o, none⟩ v).heap[b]? = some (.cells (c.setIfInBounds o v) t fr) := by rw [e]; exact setRow_heap _ _ _ _ _ _ h
    obtain ⟨i1, i2, i3⟩ := ih (W.setCell ⟨b, o, none⟩ v) b (o + 1) _ t fr h2
    refine ⟨i1, ((Below.refl b W).setCell (p := ⟨b, o, none⟩) (Nat.le_refl _) v).trans i2, ?_⟩
    rw [i3, e, setRow_size]
theorem hc_splice (g r r' : Nat → Int) (n : Int) : splice (hcells g r n) 8 (tab8 64 r').toList = hcells g r' n := by
  have hl : (tab8 64 r').toList.length = 64 := by simp [tab8]
  have hg := splice_get (tab8 64 r').toList (hcells g r n) 8
  rw [hl, hc_size] at hg
  refine hc_ext (by rw [splice_size, hc_size]) ?_ ?_ ?_
  · intro i hi
    rw [hg i (by omega), if_neg (by omega), hc_g _ _ _ i hi]
  · intro i hi
    rw [hg _ (by omega), if_pos (by omega), Nat.add_sub_cancel_left]
    have := tab8_get 64 r' i hi
    simpa using this
  · rw [hg _ (by omega), if_neg (by omega), hc_n]
end Go.Proofs.YtnjmcknanlbpdaaGreatDoor

namespace Go.Proofs.YtnjmcknanlbpdaaGreatDoor
open Go.RowKit

/-- The eight words behind what was taken in. -/
def stW (g : Nat → Int) : Nat → Int := fun i => (hW i + g i) % 4294967296
/-- grown behind one block more. -/
def wkG (g r : Nat → Int) : Nat → Int := fun i => (g i + iterR kW (sched r) (stW g) 64 i) % 4294967296

theorem heap2 (w : World) (A B : Obj) : ((w.alloc A).alloc B).heap[w.heap.size]? = some A ∧ ((w.alloc A).alloc B).heap[w.heap.size + 1]? = some B := by
  have h := heap3 w A B B 0
  refine ⟨?_, ?_⟩
  · have := Below.heap_alloc ((w.alloc A).alloc B) B w.heap.size (by simp; omega)
    rw [← this]; exact h.1
  · have := Below.heap_alloc ((w.alloc A).alloc B) B (w.heap.size + 1) (by simp)
    rw [← this]; exact h.2.1

/-- THE CLASS OF WORLDS THROUGH WHICH A QUIET REGION GOES: below B as V was. -/
def CB (B : Nat) (V w' : World) : Prop := Below B V w'
theorem wp_region_cb {P : Program} {id : Nat} {Q : Exit → Act → World → Prop} {a : Act} {w V : World} {B : Nat} {l : List Oper} (hm : P.follows .mixedOrders = true) (hB : Region.lexB .any l.toArray = true) (h0 : CB B V w)
    (h : wpQuiet P l.toArray (CB B V) (fun a' => ∀ w', CB B V w' → Q .normal a' w') l a) : (Code.region id l.toArray true).wp P Q a w :=
  wp_region_quiet (C := CB B V) hm hB ⟨h0.os, h0.tape, h0.output, h0.size, h0.block⟩ (by simpa using h)
theorem wpQuiet_load_mid {P : Program} {ops : Array Oper} {C : World → Prop} {Q : Act → Prop} {rest : List Oper} {op : Oper} {a : Act} (hgd : op.guard = none) (ty : TypeId) (x : Operand) (ho : op.op = .load ty x)
    (b o : Nat) (hx : a.eval x = .pointer (some ⟨b, o, none⟩)) (cs : Array Value) (d : TypeDesc) (hc : ∀ w, C w → w.rangeAt b o cs.toList)
    (hu : P.underlying ty = some d) (hd : d.isRow = true) (hi : (P.info? ty).map (·.size) = some cs.size)
    (h : wpQuiet P ops C Q rest (a.put op.dst (.agg cs))) : wpQuiet P ops C Q (op :: rest) a := by
  have hw : Region.wanted op (yielded ops a.tmps) = true := by simp [Region.wanted, hgd]
  unfold wpQuiet
  rw [if_pos hw]
  refine ⟨_, fun w hC => ?_, h⟩
  unfold Oper.quietAt execOp
  have e := run_loadVar_mid (P := P) w b o ty cs.toList d (hc w hC) hu hd (by simpa using hi)
  simp only [ho, hx, Instr.loadAt, Instr.sureAddr, Sem.run_bind, Sem.run_pure, Result.andThen_ok, e]
  exact ⟨rfl, rfl⟩

theorem cb_call {P : Program} {f : FuncId} {args : Array Value} {V w1 : World} {B : Nat} {v : Value} (hC : CB B V w1) (hB : B ≤ V.heap.size)
    (h : Calls P f args w1 fun e w' => e = .returned v ∧ Below w1.heap.size w1 w') : Calls P f args w1 fun e w'' => e = .returned v ∧ CB B V w'' :=
  h.mono fun _ _ ⟨he, hb⟩ => ⟨he, Below.trans hC (hb.mono (Nat.le_trans hB (Below.size hC)))⟩

theorem frozen_of_row {W : World} {b o : Nat} {c : Array Value} {t : TypeId} (h : W.heap[b]? = some (.cells c t)) : W.frozen? ⟨b, o, none⟩ = false := by simp [World.frozen?, h]
theorem there_of_row {W : World} {b o n : Nat} {c : Array Value} {t : TypeId} (h : W.heap[b]? = some (.cells c t)) (hn : o + n ≤ c.size) : W.there b o n := fun j hj =>
  ⟨by rw [cell_of_row _ _ _ _ _ _ h]; simp; omega, frozen_of_row h⟩
theorem heap_setCell_row {W : World} {b k : Nat} {c : Array Value} {t : TypeId} (v : Value) (h : W.heap[b]? = some (.cells c t)) : (W.setCell ⟨b, k, none⟩ v).heap[b]? = some (.cells (c.setIfInBounds k v) t) := by
  rw [setCell_eq_setRow W b k c t _ v h]; exact setRow_heap _ _ _ _ _ _ h
theorem index23 (f : Nat → Int) (k : Nat) (h : k < 8) (W : World) : (Instr.index 81 (.agg (tab32 8 f)) (.int .i64 (k : Int))).run Tryz.prog W = .ok (.int .u32 (f k)) W := by
  have h1 := tab32_get 8 f k h
  have h2 : (k : Int) < 8 := by omega
  simp [Instr.index, asIntOf, run_underlying Tryz.underlying81, h1, go_sem]
  intro h'
  omega
theorem gk_step (g f : Nat → Int) (k : Nat) : upd (fun i => if i < k then f i else g i) k (f k) = fun i => if i < k + 1 then f i else g i := by
  funext i
  simp only [upd]
  by_cases h : i = k
  · subst h; simp
  · by_cases h2 : i < k
    · simp [h, h2, show i < k + 1 by omega]
    · simp [h, h2, show ¬ i < k + 1 by omega]

theorem heap_setCells_other (vs : List Value) : ∀ (W : World) (b o k : Nat), k ≠ b → (W.setCells b o vs).heap[k]? = W.heap[k]? := by
  induction vs with
  | nil => intro W b o k _; rfl
  | cons v vs ih =>
    intro W b o k h
    rw [World.setCells, ih _ _ _ _ h, Below.heap_setCell _ _ _ _ (by simpa using h)]

theorem isLoad {P : Program} {ops : Array Oper} {rest : List Oper} {o : Oper} {a : Act} {w : World} {Q : Exit → Act → World → Prop} (ty : TypeId) (x : Operand) (_ : o.op = .load ty x) (h : wpList P ops Q (o :: rest) a w) : wpList P ops Q (o :: rest) a w := h
theorem isStore {P : Program} {ops : Array Oper} {rest : List Oper} {o : Oper} {a : Act} {w : World} {Q : Exit → Act → World → Prop} (ty : TypeId) (x y : Operand) (_ : o.op = .store ty x y) (h : wpList P ops Q (o :: rest) a w) : wpList P ops Q (o :: rest) a w := h

theorem built24 : (Tryz.prog.built 82 []).getD #[] = tab8 64 (fun _ => 0) := by kernel_rfl
theorem isBuilt24 : (Tryz.prog.built 82 []).isSome = true := by kernel_rfl
theorem wpList_build24 {ops : Array Oper} {rest : List Oper} {o : Oper} {a : Act} {w : World} {Q : Exit → Act → World → Prop} (hg : o.guard = none) (ho : o.op = .build 82 #[])
    (h : wpList Tryz.prog ops Q rest (a.put o.dst (.agg (tab8 64 (fun _ => 0)))) w) : wpList Tryz.prog ops Q (o :: rest) a w := by
  have e0 : ((#[] : Array (Nat × Operand)).map fun (i, x) => (i, a.eval x)).toList = [] := by simp
  refine wpList_build hg 82 #[] ho (by rw [e0]; exact isBuilt24) ?_
  rw [e0, built24]
  exact h

theorem after_rest {W : World} {b : Nat} {g r : Nat → Int} {n : Int} (r' : Nat → Int) (h : W.heap[b]? = some (.cells (hcells g r n) 85)) : (W.setCells b 8 (tab8 64 r').toList).heap[b]? = some (.cells (hcells g r' n) 85) := by
  have e := heap_setCells (tab8 64 r').toList W b 8 _ 85 (0, 0) h
  rw [hc_splice] at e
  exact e.1

theorem zero27 : ∀ w, (zeroValue 85).run Tryz.prog w = .ok (.agg (hcells (fun _ => 0) (fun _ => 0) 0)) w :=
  (zero_of_info (n := 73) (by kernel_rfl)).1
theorem hc_len (g r : Nat → Int) (n : Int) : (hcells g r n).toList.length = 73 := by simp [hc_size]
/-- What the block B holds. -/
theorem range_g {W : World} {B : Nat} {g r : Nat → Int} {n : Int} {t : TypeId} (h : W.heap[B]? = some (.cells (hcells g r n) t)) : W.rangeAt B 0 (hcells g r n).toList := by
  intro j v hv
  rw [cell_of_row W B (0 + j) _ t (0, 0) h, Nat.zero_add]
  simpa using hv
theorem range_r {W : World} {B : Nat} {g r : Nat → Int} {n : Int} {t : TypeId} (h : W.heap[B]? = some (.cells (hcells g r n) t)) : W.rangeAt B 8 (tab8 64 r).toList := by
  intro j v hv
  have hj : j < 64 := by have := (List.getElem?_eq_some_iff.1 hv).1; simpa [tab8_size] using this
  rw [cell_of_row W B (8 + j) _ t (0, 0) h, hc_r _ _ _ _ hj]
  have := tab8_get 64 r j hj
  rw [← this]
  simpa using hv

set_option maxRecDepth 20000 in
set_option maxHeartbeats 300000 in
theorem workedIn_any (g r : Nat → Int) (n : Int) (w : World) (hG : Glob w) (hr0 : ∀ i, 0 ≤ r i) (hr1 : ∀ i, r i < 256) :
    Calls Tryz.prog 84 #[.agg (hcells g r n)] w fun e w' => e = .returned (.agg (hcells (wkG g r) (fun _ => 0) n)) ∧ Below w.heap.size w w' := by
  have HG : Hid (_) := hG
  clear hG
  go_enter Tryz.func84, Tryz.ntmps84
  have z27 := zero27
  go_wp2
  clear z27
  obtain ⟨V, hV⟩ : ∃ V, V = (w.alloc (.cells (hcells g r n) 85)).alloc (.cells (hcells (fun _ => 0) (fun _ => 0) 0) 85) := ⟨_, rfl⟩
  rw [← hV]
  have hB := heap2 w (.cells (hcells g r n) 85) (.cells (hcells (fun _ => 0) (fun _ => 0) 0) 85)
  rw [← hV] at hB
  have hVB : Below w.heap.size w V := by rw [hV]; exact ((Below.refl _ _).alloc (Nat.le_refl _) _).alloc (by simp) _
  have hVs : V.heap.size = w.heap.size + 2 := by rw [hV]; simp
  have hVG : Glob V := HG.out.below hVB HG.out.sz
  have A1 : Hid (_) := hB
  have A2 : Hid (_) := hVB
  have A3 : Hid (_) := hVs
  have A4 : Hid (_) := hVG
  clear hV hB hVB hVs hVG
  refine wp_region_cb (V := V) (B := w.heap.size + 2) (by kernel_rfl) (by kernel_rfl) (Below.refl _ _) ?_
  refine wpQuiet_load_mid rfl 85 _ rfl _ _ rfl (hcells g r n) _ (fun w1 hC => range_g (by rw [Below.block hC _ (by omega)]; exact A1.out.1)) Tryz.underlying85 rfl (size27' _ _ _) ?_
  simp only [Act.put, List.setIfInBounds_toArray, List.set_cons_succ, List.set_cons_zero]
  quiet_step ((intro hC; exact cb_call hC (Nat.le_of_eq A3.out.symm) (state_any (hcells g r n) g hW _ (A4.out.below hC (Nat.le_trans HG.out.sz (Nat.le_add_right _ 2))).sz (A4.out.below hC (Nat.le_trans HG.out.sz (Nat.le_add_right _ 2))).h (hc_g g r n))))
  quiet_step ((intro _; rfl))
  refine wpQuiet_load_mid rfl 82 _ rfl w.heap.size 8 (by first | rfl | simp [Act.eval]) (tab8 64 r) _ (fun w1 hC => range_r (by rw [Below.block hC _ (by omega)]; exact A1.out.1)) Tryz.underlying82 rfl (size24' _) ?_
  simp only [Act.put, List.setIfInBounds_toArray, List.set_cons_succ, List.set_cons_zero]
  quiet_step ((intro hC; exact cb_call hC (Nat.le_of_eq A3.out.symm) (stirred_any _ (stW g) r kW _ (A4.out.below hC (Nat.le_trans HG.out.sz (Nat.le_add_right _ 2))).sz hr0 hr1 (A4.out.below hC (Nat.le_trans HG.out.sz (Nat.le_add_right _ 2))).k (tab32_get 8 _))))
  quiet_step ((intro _; rfl))
  refine wpQuiet_nil ?_
  intro w1 hw1
  have b1 : w1.heap[w.heap.size]? = some (.cells (hcells g r n) 85) := by rw [Below.block hw1 _ (by omega)]; exact A1.out.1
  have b2 : w1.heap[w.heap.size + 1]? = some (.cells (hcells (fun _ => 0) (fun _ => 0) 0) 85) := by rw [Below.block hw1 _ (by omega)]; exact A1.out.2
  have b3 : Below w.heap.size w w1 := A2.out.trans (Below.mono hw1 (by omega))
  have C1 : Hid (_) := b1
  have C2 : Hid (_) := b2
  have C3 : Hid (_) := b3
  clear b1 b2 b3 hw1 A1 A2 A3 A4 HG hr0 hr1
  go_wp2
  go_loopw [10] (fun i W => ∃ k : Nat, k ≤ 8 ∧ i = .int .i64 k ∧ W.heap[w.heap.size]? = some (.cells (hcells (fun i => if i < k then wkG g r i else g i) r n) 85) ∧ W.heap[w.heap.size + 1]? = some (.cells (hcells (fun _ => 0) (fun _ => 0) 0) 85) ∧ Below w.heap.size w W) (fun i _ => 8 - (intOf i).toNat)
  case atStart => exact ⟨0, by omega, rfl, by simpa using C1.out, C2.out, C3.out⟩
  case round =>
    obtain ⟨k, hk, rfl, h1, h2, h3⟩ := hrel
    have D1 : Hid (_) := h1
    have D2 : Hid (_) := h2
    have D3 : Hid (_) := h3
    clear h1 h2 h3 C1 C2 C3
    by_cases hlt : k < 8
    · have q1 : wr.cell? ⟨w.heap.size, k, none⟩ = some (.int .u32 (g k)) := by
        rw [cell_of_row _ _ _ _ _ _ D1.out, hc_g _ _ _ _ hlt]; simp
      have q2 : wr.frozen? ⟨w.heap.size, k, none⟩ = false := frozen_of_row D1.out
      have q3 := index23 (iterR kW (sched r) (stW g) 64) k hlt
      have q4 : (k : Int) < 8 := by omega
      go_wp2
      go_roundw
      case rel =>
        refine ⟨k + 1, by omega, by go_num, ?_, ?_, ?_⟩
        · rw [heap_setCell_row _ D1.out, hc_set_g _ _ _ _ _ hlt]
          exact congrArg (fun f => some (Obj.cells (hcells f r n) 85)) (gk_step g (wkG g r) k)
        · rw [Below.heap_setCell _ _ _ _ (by simp)]; exact D2.out
        · exact D3.out.setCell (by simp) _
      case measure => simp [intOf]; omega
    · have hk8 : k = 8 := by omega
      have HK : Hid (k = 8) := hk8
      clear hk8
      go_wp2_with (first
        | (refine wpList_build24 rfl rfl ?_; simp only [Act.put, List.setIfInBounds_toArray, List.set_cons_succ, List.set_cons_zero])
        | (refine isStore 82 (.tmp 24) (.tmp 23) rfl ?_; refine wpList_store_mid rfl 82 (.tmp 24) (.tmp 23) rfl w.heap.size 8 (tab8 64 (fun _ => 0)) rfl rfl (there_of_row D1.out (by rw [hc_size, tab8_size]; omega)) (size24' _) (tab8_one _ _) ?_; simp only [Act.put])
        | (refine isLoad 85 (.tmp 1) rfl ?_; refine wpList_load_row rfl 85 (.tmp 1) rfl w.heap.size rfl 85 _ (0, 0) _ (after_rest _ D1.out) Tryz.underlying85 rfl (size27' _ _ _) ?_; simp only [Act.put, List.setIfInBounds_toArray, List.set_cons_succ, List.set_cons_zero])
        | (refine isStore 85 (.tmp 2) (.tmp 25) rfl ?_; refine wpList_store_row rfl 85 (.tmp 2) (.tmp 25) rfl (w.heap.size + 1) _ rfl rfl 85 _ (by rw [heap_setCells_other _ _ _ _ _ (by omega)]; exact D2.out) (size27' _ _ _) (by simp only [hc_size]) (hc_one _ _ _) ?_))
      have e1 := heap_setCells (tab8 64 (fun _ => 0)).toList wr w.heap.size 8 _ 85 (0, 0) D1.out
      have e2 : (wr.setCells w.heap.size 8 (tab8 64 (fun _ => 0)).toList).heap[w.heap.size + 1]? = some (.cells (hcells (fun _ => 0) (fun _ => 0) 0) 85) := by rw [heap_setCells_other _ _ _ _ _ (by omega)]; exact D2.out
      refine bodyPost_ret (v := .agg (hcells (fun i => if i < k then wkG g r i else g i) (fun _ => 0) n)) (results_cell_row Tryz.results84 _ _ (w.heap.size + 1) 85 _ (0, 0) _ rfl (setRow_heap _ _ _ _ _ _ e2) Tryz.underlying85 rfl (size27' _ _ _)) rfl ⟨?_, ?_⟩
      · refine congrArg (fun c => Ending.returned (Value.agg c)) ?_
        refine hc_ext (hc_size _ _ _) ?_ (hc_r _ _ _) (hc_n _ _ _)
        intro i hi
        rw [hc_g _ _ _ i hi, HK.out]
        simp [hi]
      · exact below_setRow (D3.out.trans e1.2.1) (by omega) _
end Go.Proofs.YtnjmcknanlbpdaaGreatDoor
