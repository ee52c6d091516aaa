import Derived.Test.YtplhkjkaabgffaaGreatDoorA5
import Derived.Laws.CopyOwn
namespace Go.Proofs.YtplhkjkaabgffaaGreatDoor
open Go.RowKit

theorem size28 : (Tryz.prog.info? 44).map (·.size) = some 32 := by kernel_rfl
theorem size28' (f : Nat → Int) : (Tryz.prog.info? 44).map (·.size) = some (tab8 32 f).size := by rw [tab8_size]; exact size28
/-- The digest's byte i of the words s. -/
def digB (s : Nat → Int) (i : Nat) : Int := s (i / 4) / 2 ^ (24 - 8 * (i % 4)) % 256

set_option maxHeartbeats 400000 in
theorem digest_any (c : Array Value) (s : Nat → Int) (w : World)
    (hs : ∀ i : Nat, i < 8 → c[i]? = some (.int .u32 (s i))) :
    Calls Tryz.prog 89 #[.agg c] w fun e w' => e = .returned (.agg (tab8 32 (digB s))) ∧ Below w.heap.size w w' := by
  go_enter Tryz.func89, Tryz.ntmps89
  go_wp2
  rw [show w.heap.size + 1 + 1 = w.heap.size + 2 from rfl]
  go_loopw [5] (fun i W => ∃ k : Nat, k ≤ 32 ∧ i = .int .i64 k ∧ W = (((w.alloc (.cells c 82)).alloc (.cells (tab8 32 (upto (fun _ => 0) 0)) 44)).alloc (.cells (tab8 32 (upto (digB s) k)) 44)).drewN 0) (fun i _ => 32 - (intOf i).toNat)
  case atStart => exact ⟨0, by omega, rfl, by kernel_rfl⟩
  case round =>
    obtain ⟨k, hk, rfl, rfl⟩ := hrel
    by_cases hlt : k < 32
    · have h2 := hs (k / 4) (by omega)
      have h3 := tab8_get 32 (upto (digB s) k) k hlt
      clear hs
      go_wp2
      refine ⟨⟨k + 1, by omega, by go_num, ?_⟩, by simp [intOf]; omega⟩
      rw [setTop3, tab8_set]
      exact congrArg (fun f => (((w.alloc (Obj.cells c 82)).alloc (Obj.cells (tab8 32 (upto (fun _ => 0) 0)) 44)).alloc (Obj.cells (tab8 32 f) 44)).drewN 0) (upd_upto (digB s) k)
    · have hb := heap3 w (.cells c 82) (.cells (tab8 32 (upto (fun _ => 0) 0)) 44) (.cells (tab8 32 (upto (digB s) k)) 44) 0
      have hbl := below3 w (.cells c 82) (.cells (tab8 32 (upto (fun _ => 0) 0)) 44) (.cells (tab8 32 (upto (digB s) k)) 44) 0
      have HB : Hid (_) := hb
      have HL : Hid (_) := hbl
      clear hb hbl hs
      go_wp2_with (first
        | refine wpList_load_row rfl 44 _ rfl _ rfl _ _ (0, 0) _ HB.out.2.2 Tryz.underlying44 rfl (size28' _) ?_
        | refine wpList_store_row rfl 44 _ _ rfl _ _ rfl rfl _ _ HB.out.2.1 (size28' _) (by simp only [tab8_size]) (tab8_one _ _) ?_)
      refine bodyPost_ret (v := .agg (tab8 32 (upto (digB s) k))) (results_cell_row Tryz.results89 _ _ _ _ _ (0, 0) _ rfl (setRow_heap _ _ _ _ _ _ HB.out.2.1) Tryz.underlying44 rfl (size28' _)) rfl ⟨?_, ?_⟩
      · rw [tab8_congr (n := 32)]
        intro i hi
        simp [upto, show i < k by omega]
      · exact below_setRow HL.out (by omega) _
end Go.Proofs.YtplhkjkaabgffaaGreatDoor

namespace Go.Proofs.YtplhkjkaabgffaaGreatDoor
open Go.RowKit

def hList : List Int := [1779033703, 3144134277, 1013904242, 2773480762, 1359893119, 2600822924, 528734635, 1541459225]
def kList : List Int := [1116352408, 1899447441, 3049323471, 3921009573, 961987163, 1508970993, 2453635748, 2870763221, 3624381080, 310598401, 607225278, 1426881987, 1925078388, 2162078206, 2614888103, 3248222580, 3835390401, 4022224774, 264347078, 604807628, 770255983, 1249150122, 1555081692, 1996064986, 2554220882, 2821834349, 2952996808, 3210313671, 3336571891, 3584528711, 113926993, 338241895, 666307205, 773529912, 1294757372, 1396182291, 1695183700, 1986661051, 2177026350, 2456956037, 2730485921, 2820302411, 3259730800, 3345764771, 3516065817, 3600352804, 4094571909, 275423344, 430227734, 506948616, 659060556, 883997877, 958139571, 1322822218, 1537002063, 1747873779, 1955562222, 2024104815, 2227730452, 2361852424, 2428436474, 2756734187, 3204031479, 3329325298]
def hW (i : Nat) : Int := hList.getD i 0
def kW (i : Nat) : Int := kList.getD i 0

/-- The two tables lie in their blocks. -/
structure Glob (w : World) : Prop where
  sz : 1 < w.heap.size
  h : ∀ i : Nat, i < 8 → w.cell? ⟨0, i, none⟩ = some (.int .u32 (hW i))
  k : ∀ i : Nat, i < 64 → w.cell? ⟨1, i, none⟩ = some (.int .u32 (kW i))
theorem Glob.below {w w' : World} {B : Nat} (g : Glob w) (h : Below B w w') (hB : 2 ≤ B) : Glob w' :=
  ⟨by have := h.size; have := g.sz; omega, fun i hi => by rw [below_cell h (by omega)]; exact g.h i hi, fun i hi => by rw [below_cell h (by omega)]; exact g.k i hi⟩

/-- A hash's cells. -/
def hcells (g r : Nat → Int) (n : Int) : Array Value := tab32 8 g ++ tab8 64 r ++ #[.int .u64 n]
theorem hc_size (g r : Nat → Int) (n : Int) : (hcells g r n).size = 73 := by simp [hcells, tab32_size, tab8_size]
theorem hc_g (g r : Nat → Int) (n : Int) (i : Nat) (h : i < 8) : (hcells g r n)[i]? = some (.int .u32 (g i)) := by
  unfold hcells
  rw [Array.getElem?_append_left (by simp [tab32_size, tab8_size]; omega), Array.getElem?_append_left (by simp [tab32_size]; omega)]
  exact tab32_get 8 g i h
theorem hc_r (g r : Nat → Int) (n : Int) (i : Nat) (h : i < 64) : (hcells g r n)[8 + i]? = some (.int .u8 (r i)) := by
  unfold hcells
  rw [Array.getElem?_append_left (by simp [tab32_size, tab8_size]; omega), Array.getElem?_append_right (by simp [tab32_size])]
  simp only [tab32_size, Nat.add_sub_cancel_left]
  exact tab8_get 64 r i h
theorem hc_n (g r : Nat → Int) (n : Int) : (hcells g r n)[72]? = some (.int .u64 n) := by
  unfold hcells
  rw [Array.getElem?_append_right (by simp [tab32_size, tab8_size])]
  simp [tab32_size, tab8_size]
/-- Which place is it? -/
theorem hc_ext {g' r' : Nat → Int} {n' : Int} {c : Array Value} (hs : c.size = 73) (hg : ∀ i, i < 8 → c[i]? = some (.int .u32 (g' i))) (hr : ∀ i, i < 64 → c[8 + i]? = some (.int .u8 (r' i))) (hn : c[72]? = some (.int .u64 n')) : c = hcells g' r' n' := by
  apply Array.ext_getElem?
  intro i
  by_cases h1 : i < 8
  · rw [hg i h1, hc_g _ _ _ i h1]
  · by_cases h2 : i < 72
    · obtain ⟨j, rfl⟩ : ∃ j, i = 8 + j := ⟨i - 8, by omega⟩
      rw [hr j (by omega), hc_r _ _ _ j (by omega)]
    · by_cases h3 : i = 72
      · subst h3; rw [hn, hc_n]
      · rw [Array.getElem?_eq_none (by omega), Array.getElem?_eq_none (by rw [hc_size]; omega)]
theorem hc_set_g (g r : Nat → Int) (n : Int) (k : Nat) (v : Int) (hk : k < 8) : (hcells g r n).setIfInBounds k (.int .u32 v) = hcells (upd g k v) r n := by
  refine hc_ext (by simp [hc_size]) ?_ ?_ ?_
  · intro i hi
    rw [Array.getElem?_setIfInBounds]
    by_cases h : k = i
    · subst h; simp [hc_size, upd, show k < 73 by omega]
    · rw [if_neg h, hc_g _ _ _ i hi]; simp [upd, show ¬ i = k from fun e => h e.symm]
  · intro i hi
    rw [Array.getElem?_setIfInBounds, if_neg (by omega), hc_r _ _ _ i hi]
  · rw [Array.getElem?_setIfInBounds, if_neg (by omega), hc_n]
theorem hc_set_r (g r : Nat → Int) (n : Int) (k : Nat) (v : Int) (hk : k < 64) : (hcells g r n).setIfInBounds (8 + k) (.int .u8 v) = hcells g (upd r k v) n := by
  refine hc_ext (by simp [hc_size]) ?_ ?_ ?_
  · intro i hi
    rw [Array.getElem?_setIfInBounds, if_neg (by omega), hc_g _ _ _ i hi]
  · intro i hi
    rw [Array.getElem?_setIfInBounds]
    by_cases h : k = i
    · subst h; simp [hc_size, upd, show 8 + k < 73 by omega]
    · rw [if_neg (by omega), hc_r _ _ _ i hi]; simp [upd, show ¬ i = k from fun e => h e.symm]
  · rw [Array.getElem?_setIfInBounds, if_neg (by omega), hc_n]
theorem hc_set_n (g r : Nat → Int) (n v : Int) : (hcells g r n).setIfInBounds 72 (.int .u64 v) = hcells g r v := by
  refine hc_ext (by simp [hc_size]) ?_ ?_ ?_
  · intro i hi
    rw [Array.getElem?_setIfInBounds, if_neg (by omega), hc_g _ _ _ i hi]
  · intro i hi
    rw [Array.getElem?_setIfInBounds, if_neg (by omega), hc_r _ _ _ i hi]
  · rw [Array.getElem?_setIfInBounds]; simp [hc_size]
theorem hc_one (g r : Nat → Int) (n : Int) : (hcells g r n).all (·.oneCell') = true := by
  simp only [hcells, Array.all_append, tab32_one, tab8_one]
  simp [Value.oneCell']
theorem size27' (g r : Nat → Int) (n : Int) : (Tryz.prog.info? 86).map (·.size) = some (hcells g r n).size := by rw [hc_size]; kernel_rfl

/-- cells laid over others from a place on -/
def splice (c : Array Value) : Nat → List Value → Array Value
  | _, [] => c
  | o, v :: vs => splice (c.setIfInBounds o v) (o + 1) vs
theorem splice_size (vs : List Value) : ∀ (c : Array Value) (o : Nat), (splice c o vs).size = c.size := by
  induction vs with
  | nil => intro c o; rfl
  | cons v vs ih => intro c o; simp only [splice]; rw [ih]; simp
theorem splice_get (vs : List Value) : ∀ (c : Array Value) (o i : Nat), o + vs.length ≤ c.size → (splice c o vs)[i]? = if o ≤ i ∧ i < o + vs.length then vs[i - o]? else c[i]? := by
  induction vs with
  | nil => intro c o i h; simp only [splice, List.length_nil]; rw [if_neg (by omega)]
  | cons v vs ih =>
    intro c o i h
    simp only [splice, List.length_cons] at h ⊢
    rw [ih _ _ _ (by simp; omega)]
    by_cases h1 : i = o
    · subst h1
      rw [if_neg (by omega), if_pos (by omega)]
      simp [show i < c.size by omega]
    · by_cases h2 : o + 1 ≤ i ∧ i < o + 1 + vs.length
      · rw [if_pos h2, if_pos (by omega)]
        obtain ⟨j, rfl⟩ : ∃ j, i = o + 1 + j := ⟨i - (o + 1), by omega⟩
        rw [show o + 1 + j - (o + 1) = j by omega, show o + 1 + j - o = j + 1 by omega]
        rfl
      · rw [if_neg h2, if_neg (by omega), Array.getElem?_setIfInBounds, if_neg (fun e => h1 e.symm)]
theorem heap_setCells (vs : List Value) : ∀ (W : World) (b o : Nat) (c : Array Value) (t : TypeId) (fr : Nat × Nat), W.heap[b]? = some (.cells c t fr) → (W.setCells b o vs).heap[b]? = some (.cells (splice c o vs) t fr) ∧ Below b W (W.setCells b o vs) ∧ (W.setCells b o vs).heap.size = W.heap.size := by
  induction vs with
  | nil => intro W b o c t fr h; exact ⟨h, Below.refl _ _, rfl⟩
  | cons v vs ih =>
    intro W b o c t fr h
    rw [World.setCells]
    have e := setCell_eq_setRow W b o c t fr v h
    have h2 : (W.setCell ⟨b, o, none⟩ v).heap[b]? = some (.cells (c.setIfInBounds o v) t fr) := by rw [e]; exact setRow_heap _ _ _ _ _ _ h
    obtain ⟨i1, i2, i3⟩ := ih (W.setCell ⟨b, o, none⟩ v) b (o + 1) _ t fr h2
    refine ⟨i1, ((Below.refl b W).setCell (p := ⟨b, o, none⟩) (Nat.le_refl _) v).trans i2, ?_⟩
    rw [i3, e, setRow_size]
theorem hc_splice (g r r' : Nat → Int) (n : Int) : splice (hcells g r n) 8 (tab8 64 r').toList = hcells g r' n := by
  have hl : (tab8 64 r').toList.length = 64 := by simp [tab8]
  have hg := splice_get (tab8 64 r').toList (hcells g r n) 8
  rw [hl, hc_size] at hg
  refine hc_ext (by rw [splice_size, hc_size]) ?_ ?_ ?_
  · intro i hi
    rw [hg i (by omega), if_neg (by omega), hc_g _ _ _ i hi]
  · intro i hi
    rw [hg _ (by omega), if_pos (by omega), Nat.add_sub_cancel_left]
    have := tab8_get 64 r' i hi
    simpa using this
  · rw [hg _ (by omega), if_neg (by omega), hc_n]
end Go.Proofs.YtplhkjkaabgffaaGreatDoor

namespace Go.Proofs.YtplhkjkaabgffaaGreatDoor
open Go.RowKit

/-- The eight words behind what was taken in. -/
def stW (g : Nat → Int) : Nat → Int := fun i => (hW i + g i) % 4294967296
/-- grown behind one block more. -/
def wkG (g r : Nat → Int) : Nat → Int := fun i => (g i + iterR kW (sched r) (stW g) 64 i) % 4294967296

theorem heap2 (w : World) (A B : Obj) : ((w.alloc A).alloc B).heap[w.heap.size]? = some A ∧ ((w.alloc A).alloc B).heap[w.heap.size + 1]? = some B := by
  have h := heap3 w A B B 0
  refine ⟨?_, ?_⟩
  · have := Below.heap_alloc ((w.alloc A).alloc B) B w.heap.size (by simp; omega)
    rw [← this]; exact h.1
  · have := Below.heap_alloc ((w.alloc A).alloc B) B (w.heap.size + 1) (by simp)
    rw [← this]; exact h.2.1

/-- THE CLASS OF WORLDS THROUGH WHICH A QUIET REGION GOES: below B as V was. -/
def CB (B : Nat) (V w' : World) : Prop := Below B V w'
theorem wp_region_cb {P : Program} {id : Nat} {Q : Exit → Act → World → Prop} {a : Act} {w V : World} {B : Nat} {l : List Oper} (hm : P.follows .mixedOrders = true) (hB : Region.lexB .any l.toArray = true) (h0 : CB B V w)
    (h : wpQuiet P l.toArray (CB B V) (fun a' => ∀ w', CB B V w' → Q .normal a' w') l a) : (Code.region id l.toArray true).wp P Q a w :=
  wp_region_quiet (C := CB B V) hm hB ⟨h0.os, h0.tape, h0.output, h0.size, h0.block⟩ (by simpa using h)
theorem wpQuiet_load_mid {P : Program} {ops : Array Oper} {C : World → Prop} {Q : Act → Prop} {rest : List Oper} {op : Oper} {a : Act} (hgd : op.guard = none) (ty : TypeId) (x : Operand) (ho : op.op = .load ty x)
    (b o : Nat) (hx : a.eval x = .pointer (some ⟨b, o, none⟩)) (cs : Array Value) (d : TypeDesc) (hc : ∀ w, C w → w.rangeAt b o cs.toList)
    (hu : P.underlying ty = some d) (hd : d.isRow = true) (hi : (P.info? ty).map (·.size) = some cs.size)
    (h : wpQuiet P ops C Q rest (a.put op.dst (.agg cs))) : wpQuiet P ops C Q (op :: rest) a := by
  have hw : Region.wanted op (yielded ops a.tmps) = true := by simp [Region.wanted, hgd]
  unfold wpQuiet
  rw [if_pos hw]
  refine ⟨_, fun w hC => ?_, h⟩
  unfold Oper.quietAt execOp
  have e := run_loadVar_mid (P := P) w b o ty cs.toList d (hc w hC) hu hd (by simpa using hi)
  simp only [ho, hx, Instr.loadAt, Instr.sureAddr, Sem.run_bind, Sem.run_pure, Result.andThen_ok, e]
  exact ⟨rfl, rfl⟩

theorem cb_call {P : Program} {f : FuncId} {args : Array Value} {V w1 : World} {B : Nat} {v : Value} (hC : CB B V w1) (hB : B ≤ V.heap.size)
    (h : Calls P f args w1 fun e w' => e = .returned v ∧ Below w1.heap.size w1 w') : Calls P f args w1 fun e w'' => e = .returned v ∧ CB B V w'' :=
  h.mono fun _ _ ⟨he, hb⟩ => ⟨he, Below.trans hC (hb.mono (Nat.le_trans hB (Below.size hC)))⟩

theorem frozen_of_row {W : World} {b o : Nat} {c : Array Value} {t : TypeId} (h : W.heap[b]? = some (.cells c t)) : W.frozen? ⟨b, o, none⟩ = false := by simp [World.frozen?, h]
theorem there_of_row {W : World} {b o n : Nat} {c : Array Value} {t : TypeId} (h : W.heap[b]? = some (.cells c t)) (hn : o + n ≤ c.size) : W.there b o n := fun j hj =>
  ⟨by rw [cell_of_row _ _ _ _ _ _ h]; simp; omega, frozen_of_row h⟩
theorem heap_setCell_row {W : World} {b k : Nat} {c : Array Value} {t : TypeId} (v : Value) (h : W.heap[b]? = some (.cells c t)) : (W.setCell ⟨b, k, none⟩ v).heap[b]? = some (.cells (c.setIfInBounds k v) t) := by
  rw [setCell_eq_setRow W b k c t _ v h]; exact setRow_heap _ _ _ _ _ _ h
theorem index23 (f : Nat → Int) (k : Nat) (h : k < 8) (W : World) : (Instr.index 82 (.agg (tab32 8 f)) (.int .i64 (k : Int))).run Tryz.prog W = .ok (.int .u32 (f k)) W := by
  have h1 := tab32_get 8 f k h
  have h2 : (k : Int) < 8 := by omega
  simp [Instr.index, asIntOf, run_underlying Tryz.underlying82, h1, go_sem]
  intro h'
  omega
theorem gk_step (g f : Nat → Int) (k : Nat) : upd (fun i => if i < k then f i else g i) k (f k) = fun i => if i < k + 1 then f i else g i := by
  funext i
  simp only [upd]
  by_cases h : i = k
  · subst h; simp
  · by_cases h2 : i < k
    · simp [h, h2, show i < k + 1 by omega]
    · simp [h, h2, show ¬ i < k + 1 by omega]

theorem heap_setCells_other (vs : List Value) : ∀ (W : World) (b o k : Nat), k ≠ b → (W.setCells b o vs).heap[k]? = W.heap[k]? := by
  induction vs with
  | nil => intro W b o k _; rfl
  | cons v vs ih =>
    intro W b o k h
    rw [World.setCells, ih _ _ _ _ h, Below.heap_setCell _ _ _ _ (by simpa using h)]

theorem isLoad {P : Program} {ops : Array Oper} {rest : List Oper} {o : Oper} {a : Act} {w : World} {Q : Exit → Act → World → Prop} (ty : TypeId) (x : Operand) (_ : o.op = .load ty x) (h : wpList P ops Q (o :: rest) a w) : wpList P ops Q (o :: rest) a w := h
theorem isStore {P : Program} {ops : Array Oper} {rest : List Oper} {o : Oper} {a : Act} {w : World} {Q : Exit → Act → World → Prop} (ty : TypeId) (x y : Operand) (_ : o.op = .store ty x y) (h : wpList P ops Q (o :: rest) a w) : wpList P ops Q (o :: rest) a w := h

theorem built24 : (Tryz.prog.built 83 []).getD #[] = tab8 64 (fun _ => 0) := by kernel_rfl
theorem isBuilt24 : (Tryz.prog.built 83 []).isSome = true := by kernel_rfl
theorem wpList_build24 {ops : Array Oper} {rest : List Oper} {o : Oper} {a : Act} {w : World} {Q : Exit → Act → World → Prop} (hg : o.guard = none) (ho : o.op = .build 83 #[])
    (h : wpList Tryz.prog ops Q rest (a.put o.dst (.agg (tab8 64 (fun _ => 0)))) w) : wpList Tryz.prog ops Q (o :: rest) a w := by
  have e0 : ((#[] : Array (Nat × Operand)).map fun (i, x) => (i, a.eval x)).toList = [] := by simp
  refine wpList_build hg 83 #[] ho (by rw [e0]; exact isBuilt24) ?_
  rw [e0, built24]
  exact h

theorem wpList_val {P : Program} {ops : Array Oper} {rest : List Oper} {op : Oper} {a : Act} {w : World} {Q : Exit → Act → World → Prop} (hgd : op.guard = none) (v : Value) (hv : (execOp a.eval op).run P w = .ok (.value v) w)
    (h : wpList P ops Q rest (a.put op.dst v) w) : wpList P ops Q (op :: rest) a w :=
  wpList_plain hgd fun K hK => by unfold Oper.wp; rw [hv]; exact hK _ _ h

theorem after_rest {W : World} {b : Nat} {g r : Nat → Int} {n : Int} (r' : Nat → Int) (h : W.heap[b]? = some (.cells (hcells g r n) 86)) : (W.setCells b 8 (tab8 64 r').toList).heap[b]? = some (.cells (hcells g r' n) 86) := by
  have e := heap_setCells (tab8 64 r').toList W b 8 _ 86 (0, 0) h
  rw [hc_splice] at e
  exact e.1

theorem zero27 : ∀ w, (zeroValue 86).run Tryz.prog w = .ok (.agg (hcells (fun _ => 0) (fun _ => 0) 0)) w :=
  (zero_of_info (n := 73) (by kernel_rfl)).1
theorem hc_len (g r : Nat → Int) (n : Int) : (hcells g r n).toList.length = 73 := by simp [hc_size]
theorem tab8_len (f : Nat → Int) : (tab8 64 f).toList.length = 64 := by simp [tab8_size]
/-- What the block B holds. -/
theorem range_g {W : World} {B : Nat} {g r : Nat → Int} {n : Int} {t : TypeId} (h : W.heap[B]? = some (.cells (hcells g r n) t)) : W.rangeAt B 0 (hcells g r n).toList := by
  intro j v hv
  rw [cell_of_row W B (0 + j) _ t (0, 0) h, Nat.zero_add]
  simpa using hv
theorem range_r {W : World} {B : Nat} {g r : Nat → Int} {n : Int} {t : TypeId} (h : W.heap[B]? = some (.cells (hcells g r n) t)) : W.rangeAt B 8 (tab8 64 r).toList := by
  intro j v hv
  have hj : j < 64 := by have := (List.getElem?_eq_some_iff.1 hv).1; simpa [tab8_size] using this
  rw [cell_of_row W B (8 + j) _ t (0, 0) h, hc_r _ _ _ _ hj]
  have := tab8_get 64 r j hj
  rw [← this]
  simpa using hv

set_option maxRecDepth 20000 in
set_option maxHeartbeats 300000 in
theorem workedIn_any (g r : Nat → Int) (n : Int) (w : World) (hG : Glob w) (hr0 : ∀ i, 0 ≤ r i) (hr1 : ∀ i, r i < 256) :
    Calls Tryz.prog 84 #[.agg (hcells g r n)] w fun e w' => e = .returned (.agg (hcells (wkG g r) (fun _ => 0) n)) ∧ Below w.heap.size w w' := by
  have HG : Hid (_) := hG
  clear hG
  go_enter Tryz.func84, Tryz.ntmps84
  have z27 := zero27
  go_wp2
  clear z27
  obtain ⟨V, hV⟩ : ∃ V, V = (w.alloc (.cells (hcells g r n) 86)).alloc (.cells (hcells (fun _ => 0) (fun _ => 0) 0) 86) := ⟨_, rfl⟩
  rw [← hV]
  have hB := heap2 w (.cells (hcells g r n) 86) (.cells (hcells (fun _ => 0) (fun _ => 0) 0) 86)
  rw [← hV] at hB
  have hVB : Below w.heap.size w V := by rw [hV]; exact ((Below.refl _ _).alloc (Nat.le_refl _) _).alloc (by simp) _
  have hVs : V.heap.size = w.heap.size + 2 := by rw [hV]; simp
  have hVG : Glob V := HG.out.below hVB HG.out.sz
  have A1 : Hid (_) := hB
  have A2 : Hid (_) := hVB
  have A3 : Hid (_) := hVs
  have A4 : Hid (_) := hVG
  clear hV hB hVB hVs hVG
  refine wp_region_cb (V := V) (B := w.heap.size + 2) (by kernel_rfl) (by kernel_rfl) (Below.refl _ _) ?_
  refine wpQuiet_load_mid rfl 86 _ rfl _ _ rfl (hcells g r n) _ (fun w1 hC => range_g (by rw [Below.block hC _ (by omega)]; exact A1.out.1)) Tryz.underlying86 rfl (size27' _ _ _) ?_
  simp only [Act.put, List.setIfInBounds_toArray, List.set_cons_succ, List.set_cons_zero]
  quiet_step ((intro hC; exact cb_call hC (Nat.le_of_eq A3.out.symm) (state_any (hcells g r n) g hW _ (A4.out.below hC (by omega)).sz (A4.out.below hC (by omega)).h (hc_g g r n))))
  quiet_step ((intro _; rfl))
  refine wpQuiet_load_mid rfl 83 _ rfl w.heap.size 8 (by first | rfl | simp [Act.eval]) (tab8 64 r) _ (fun w1 hC => range_r (by rw [Below.block hC _ (by omega)]; exact A1.out.1)) Tryz.underlying83 rfl (size24' _) ?_
  simp only [Act.put, List.setIfInBounds_toArray, List.set_cons_succ, List.set_cons_zero]
  quiet_step ((intro hC; exact cb_call hC (Nat.le_of_eq A3.out.symm) (stirred_any _ (stW g) r kW _ (A4.out.below hC (by omega)).sz hr0 hr1 (A4.out.below hC (by omega)).k (tab32_get 8 _))))
  quiet_step ((intro _; rfl))
  refine wpQuiet_nil ?_
  intro w1 hw1
  have b1 : w1.heap[w.heap.size]? = some (.cells (hcells g r n) 86) := by rw [Below.block hw1 _ (by omega)]; exact A1.out.1
  have b2 : w1.heap[w.heap.size + 1]? = some (.cells (hcells (fun _ => 0) (fun _ => 0) 0) 86) := by rw [Below.block hw1 _ (by omega)]; exact A1.out.2
  have b3 : Below w.heap.size w w1 := A2.out.trans (Below.mono hw1 (by omega))
  have C1 : Hid (_) := b1
  have C2 : Hid (_) := b2
  have C3 : Hid (_) := b3
  clear b1 b2 b3 hw1 A1 A2 A3 A4 HG hr0 hr1
  go_wp2
  go_loopw [10] (fun i W => ∃ k : Nat, k ≤ 8 ∧ i = .int .i64 k ∧ W.heap[w.heap.size]? = some (.cells (hcells (fun i => if i < k then wkG g r i else g i) r n) 86) ∧ W.heap[w.heap.size + 1]? = some (.cells (hcells (fun _ => 0) (fun _ => 0) 0) 86) ∧ Below w.heap.size w W) (fun i _ => 8 - (intOf i).toNat)
  case atStart => exact ⟨0, by omega, rfl, by simpa using C1.out, C2.out, C3.out⟩
  case round =>
    obtain ⟨k, hk, rfl, h1, h2, h3⟩ := hrel
    have D1 : Hid (_) := h1
    have D2 : Hid (_) := h2
    have D3 : Hid (_) := h3
    clear h1 h2 h3 C1 C2 C3
    by_cases hlt : k < 8
    · have q1 : wr.cell? ⟨w.heap.size, k, none⟩ = some (.int .u32 (g k)) := by
        rw [cell_of_row _ _ _ _ _ _ D1.out, hc_g _ _ _ _ hlt]; simp
      have q2 : wr.frozen? ⟨w.heap.size, k, none⟩ = false := frozen_of_row D1.out
      have q3 := index23 (iterR kW (sched r) (stW g) 64) k hlt
      have q4 : (k : Int) < 8 := by omega
      go_wp2
      go_roundw
      case rel =>
        refine ⟨k + 1, by omega, by go_num, ?_, ?_, ?_⟩
        · rw [heap_setCell_row _ D1.out, hc_set_g _ _ _ _ _ hlt]
          exact congrArg (fun f => some (Obj.cells (hcells f r n) 86)) (gk_step g (wkG g r) k)
        · rw [Below.heap_setCell _ _ _ _ (by simp)]; exact D2.out
        · exact D3.out.setCell (by simp) _
      case measure => simp [intOf]; omega
    · have hk8 : k = 8 := by omega
      have HK : Hid (k = 8) := hk8
      clear hk8
      go_wp2_with (first
        | (refine wpList_build24 rfl rfl ?_; simp only [Act.put, List.setIfInBounds_toArray, List.set_cons_succ, List.set_cons_zero])
        | (refine isStore 83 (.tmp 24) (.tmp 23) rfl ?_; refine wpList_store_mid rfl 83 (.tmp 24) (.tmp 23) rfl w.heap.size 8 (tab8 64 (fun _ => 0)) rfl rfl (there_of_row D1.out (by rw [hc_size, tab8_size]; omega)) (size24' _) (tab8_one _ _) ?_; simp only [Act.put])
        | (refine isLoad 86 (.tmp 1) rfl ?_; refine wpList_load_row rfl 86 (.tmp 1) rfl w.heap.size rfl 86 _ (0, 0) _ (after_rest _ D1.out) Tryz.underlying86 rfl (size27' _ _ _) ?_; simp only [Act.put, List.setIfInBounds_toArray, List.set_cons_succ, List.set_cons_zero])
        | (refine isStore 86 (.tmp 2) (.tmp 25) rfl ?_; refine wpList_store_row rfl 86 (.tmp 2) (.tmp 25) rfl (w.heap.size + 1) _ rfl rfl 86 _ (by rw [heap_setCells_other _ _ _ _ _ (by omega)]; exact D2.out) (size27' _ _ _) (by simp only [hc_size]) (hc_one _ _ _) ?_))
      have e1 := heap_setCells (tab8 64 (fun _ => 0)).toList wr w.heap.size 8 _ 86 (0, 0) D1.out
      have e2 : (wr.setCells w.heap.size 8 (tab8 64 (fun _ => 0)).toList).heap[w.heap.size + 1]? = some (.cells (hcells (fun _ => 0) (fun _ => 0) 0) 86) := by rw [heap_setCells_other _ _ _ _ _ (by omega)]; exact D2.out
      refine bodyPost_ret (v := .agg (hcells (fun i => if i < k then wkG g r i else g i) (fun _ => 0) n)) (results_cell_row Tryz.results84 _ _ (w.heap.size + 1) 86 _ (0, 0) _ rfl (setRow_heap _ _ _ _ _ _ e2) Tryz.underlying86 rfl (size27' _ _ _)) rfl ⟨?_, ?_⟩
      · refine congrArg (fun c => Ending.returned (Value.agg c)) ?_
        refine hc_ext (hc_size _ _ _) ?_ (hc_r _ _ _) (hc_n _ _ _)
        intro i hi
        rw [hc_g _ _ _ i hi, HK.out]
        simp [hi]
      · exact below_setRow (D3.out.trans e1.2.1) (by omega) _
end Go.Proofs.YtplhkjkaabgffaaGreatDoor

namespace Go.Proofs.YtplhkjkaabgffaaGreatDoor
open Go.RowKit

def two64 : Nat := 18446744073709551616
def lenB (n : Nat) (i : Nat) : Int := IntKind.u64.wrap ((n : Int) * 8) / 2 ^ (56 - 8 * i) % 256
/-- the byte 80 behind what was taken in -/
def padR (r : Nat → Int) (n : Nat) : Nat → Int := upd r (n % 64) 128
def pg (g r : Nat → Int) (n : Nat) : Nat → Int := if n % 64 < 56 then g else wkG g (padR r n)
def pr (r : Nat → Int) (n : Nat) : Nat → Int := if n % 64 < 56 then padR r n else fun _ => 0
/-- k bytes of the length laid into the block's end -/
def lenR (r : Nat → Int) (n k : Nat) : Nat → Int := fun i => if 56 ≤ i ∧ i < 56 + k then lenB n (i - 56) else r i
def padG (g r : Nat → Int) (n : Nat) : Nat → Int := wkG (pg g r n) (lenR (pr r n) n 8)

theorem lenR_step (r : Nat → Int) (n k : Nat) : upd (lenR r n k) (56 + k) (lenB n k) = lenR r n (k + 1) := by
  funext i
  simp only [upd, lenR]
  by_cases h : i = 56 + k
  · subst h; simp
  · by_cases h2 : 56 ≤ i ∧ i < 56 + k
    · rw [if_neg h, if_pos h2, if_pos (by omega)]
    · rw [if_neg h, if_neg h2, if_neg (by omega)]
theorem padR_bd (r : Nat → Int) (n : Nat) (hr0 : ∀ i, 0 ≤ r i) (hr1 : ∀ i, r i < 256) : (∀ i, 0 ≤ padR r n i) ∧ (∀ i, padR r n i < 256) := by
  refine ⟨fun i => ?_, fun i => ?_⟩ <;> simp only [padR, upd] <;> split
  · omega
  · exact hr0 i
  · omega
  · exact hr1 i
theorem pr_bd (r : Nat → Int) (n : Nat) (hr0 : ∀ i, 0 ≤ r i) (hr1 : ∀ i, r i < 256) : (∀ i, 0 ≤ pr r n i) ∧ (∀ i, pr r n i < 256) := by
  unfold pr
  split
  · exact padR_bd r n hr0 hr1
  · exact ⟨fun _ => by simp, fun _ => by simp⟩
theorem lenR_bd (r : Nat → Int) (n k : Nat) (hr0 : ∀ i, 0 ≤ r i) (hr1 : ∀ i, r i < 256) : (∀ i, 0 ≤ lenR r n k i) ∧ (∀ i, lenR r n k i < 256) := by
  refine ⟨fun i => ?_, fun i => ?_⟩ <;> simp only [lenR] <;> split
  · unfold lenB; omega
  · exact hr0 i
  · unfold lenB; omega
  · exact hr1 i

theorem lenR_zero (r : Nat → Int) (n : Nat) : lenR r n 0 = r := by
  funext i; simp only [lenR]; rw [if_neg (by omega)]

set_option maxHeartbeats 400000 in
theorem padded_any (g r : Nat → Int) (n : Nat) (w : World) (hG : Glob w) (hr0 : ∀ i, 0 ≤ r i) (hr1 : ∀ i, r i < 256) :
    Calls Tryz.prog 90 #[.agg (hcells g r n)] w fun e w' => e = .returned (.agg (hcells (padG g r n) (fun _ => 0) n)) ∧ Below w.heap.size w w' := by
  have HG : Hid (_) := hG
  have HR0 : Hid (_) := hr0
  have HR1 : Hid (_) := hr1
  clear hG hr0 hr1
  have z27 := zero27
  have c72 := hc_n g r n
  have ck := hc_r g r n (n % 64) (by omega)
  have hz2 := heap2 w (.cells (hcells g (padR r n) n) 86) (.cells (hcells (fun _ => 0) (fun _ => 0) 0) 86)
  have HZ : Hid (_) := hz2
  clear hz2
  have hset : (hcells g r n).setIfInBounds (8 + n % 64) (.int .u8 128) = hcells g (padR r n) n := hc_set_r g r n (n % 64) 128 (by omega)
  by_cases h56 : n % 64 < 56
  · have h56' : ¬ (56 ≤ (n : Int) % 64) := by omega
    go_enter Tryz.func90, Tryz.ntmps90
    go_wp2
    have x1 : ((w.alloc (Obj.cells (hcells g (padR r n) n) 86)).alloc (Obj.cells (hcells (fun _ => 0) (fun _ => 0) 0) 86)).heap[w.heap.size]? = some (.cells (hcells (pg g r n) (pr r n) n) 86) := by
      unfold pg pr; rw [if_pos h56, if_pos h56]; exact HZ.out.1
    have x2 := HZ.out.2
    have x3 : Below w.heap.size w ((w.alloc (Obj.cells (hcells g (padR r n) n) 86)).alloc (Obj.cells (hcells (fun _ => 0) (fun _ => 0) 0) 86)) := ((Below.refl _ _).alloc (Nat.le_refl _) _).alloc (by simp) _
    clear HZ z27 c72 ck hset
    have X1 : Hid (_) := x1
    have X2 : Hid (_) := x2
    have X3 : Hid (_) := x3
    clear x1 x2 x3
    go_loopw [15] (fun i W => ∃ k : Nat, k ≤ 8 ∧ i = .int .i64 k ∧ W.heap[w.heap.size]? = some (.cells (hcells (pg g r n) (lenR (pr r n) n k) n) 86) ∧ W.heap[w.heap.size + 1]? = some (.cells (hcells (fun _ => 0) (fun _ => 0) 0) 86) ∧ Below w.heap.size w W) (fun i _ => 8 - (intOf i).toNat)
    case atStart => exact ⟨0, by omega, rfl, by rw [lenR_zero]; exact X1.out, X2.out, X3.out⟩
    case round =>
      obtain ⟨k, hk, rfl, h1, h2, h3⟩ := hrel
      have D1 : Hid (_) := h1
      have D2 : Hid (_) := h2
      have D3 : Hid (_) := h3
      clear h1 h2 h3 X1 X2 X3
      by_cases hlt : k < 8
      · have q1 : wr.cell? ⟨w.heap.size, 72, none⟩ = some (.int .u64 n) := by
          rw [cell_of_row _ _ _ _ _ _ D1.out, hc_n]
        have q2 : wr.cell? ⟨w.heap.size, 8 + (56 + k), none⟩ = some (.int .u8 (lenR (pr r n) n k (56 + k))) := by
          rw [cell_of_row _ _ _ _ _ _ D1.out, hc_r _ _ _ _ (by omega)]
        have q3 : wr.frozen? ⟨w.heap.size, 8 + (56 + k), none⟩ = false := frozen_of_row D1.out
        have q4 : (k : Int) < 8 := by omega
        go_wp2
        go_roundw
        case rel =>
          refine ⟨k + 1, by omega, by go_num, ?_, ?_, ?_⟩
          · rw [heap_setCell_row _ D1.out, hc_set_r _ _ _ _ _ (by omega)]
            exact congrArg (fun f => some (Obj.cells (hcells (pg g r n) f n) 86)) (lenR_step (pr r n) n k)
          · rw [Below.heap_setCell _ _ _ _ (by simp)]; exact D2.out
          · exact D3.out.setCell (by simp) _
        case measure => simp [intOf]; omega
      · have HK : Hid (k = 8) := by show k = 8; omega
        have hw2 : w.heap.size + 2 ≤ wr.heap.size := by
          have := (Array.getElem?_eq_some_iff.1 D2.out).1; omega
        have HS : Hid (_) := hw2
        clear hw2
        go_wp2_with (first
          | (refine isLoad 86 (.tmp 1) rfl ?_; refine wpList_load_row rfl 86 (.tmp 1) rfl w.heap.size rfl 86 _ (0, 0) _ D1.out Tryz.underlying86 rfl (size27' _ _ _) ?_; simp only [Act.put, List.setIfInBounds_toArray, List.set_cons_succ, List.set_cons_zero]))
        refine (workedIn_any _ _ _ _ (HG.out.below D3.out HG.out.sz) (lenR_bd _ n k (pr_bd r n HR0.out HR1.out).1 (pr_bd r n HR0.out HR1.out).2).1 (lenR_bd _ n k (pr_bd r n HR0.out HR1.out).1 (pr_bd r n HR0.out HR1.out).2).2).mono ?_
        rintro e w2 ⟨rfl, hb2⟩
        have HB2 : Hid (_) := hb2
        clear hb2
        have hr2 : w2.heap[w.heap.size + 1]? = some (.cells (hcells (fun _ => 0) (fun _ => 0) 0) 86) := by rw [HB2.out.block _ (by have := HS.out; omega)]; exact D2.out
        have HR2 : Hid (_) := hr2
        clear hr2
        go_wp2_with (first
          | (refine isStore 86 (.tmp 2) (.tmp 32) rfl ?_; refine wpList_store_row rfl 86 (.tmp 2) (.tmp 32) rfl (w.heap.size + 1) _ rfl rfl 86 _ HR2.out (size27' _ _ _) (by simp only [hc_size]) (hc_one _ _ _) ?_))
        refine bodyPost_ret (v := .agg (hcells (wkG (pg g r n) (lenR (pr r n) n k)) (fun _ => 0) n)) (results_cell_row Tryz.results90 _ _ (w.heap.size + 1) 86 _ (0, 0) _ rfl (setRow_heap _ _ _ _ _ _ HR2.out) Tryz.underlying86 rfl (size27' _ _ _)) rfl ⟨?_, ?_⟩
        · rw [HK.out]; rfl
        · exact below_setRow (D3.out.trans (HB2.out.mono (by have := HS.out; omega))) (by omega) _
  · have h56' : (56 ≤ (n : Int) % 64) := by omega
    go_enter Tryz.func90, Tryz.ntmps90
    go_wp2_with (first
      | (refine isLoad 86 (.tmp 1) rfl ?_; refine wpList_load_row rfl 86 (.tmp 1) rfl w.heap.size rfl 86 _ (0, 0) _ HZ.out.1 Tryz.underlying86 rfl (size27' _ _ _) ?_; simp only [Act.put, List.setIfInBounds_toArray, List.set_cons_succ, List.set_cons_zero]))
    refine (workedIn_any _ _ _ _ (HG.out.below (((Below.refl _ _).alloc (Nat.le_refl _) _).alloc (by simp) _) HG.out.sz) (padR_bd r n HR0.out HR1.out).1 (padR_bd r n HR0.out HR1.out).2).mono ?_
    rintro e w1 ⟨rfl, hb1⟩
    have HB1 : Hid (_) := hb1
    clear hb1
    have hs1 : w.heap.size + 2 ≤ w1.heap.size := by have := HB1.out.size; simpa using this
    have y1 : w1.heap[w.heap.size]? = some (.cells (hcells g (padR r n) n) 86) := by rw [HB1.out.block _ (by simp; omega)]; exact HZ.out.1
    have y2 : w1.heap[w.heap.size + 1]? = some (.cells (hcells (fun _ => 0) (fun _ => 0) 0) 86) := by rw [HB1.out.block _ (by simp)]; exact HZ.out.2
    have y3 : Below w.heap.size w w1 := (((Below.refl _ _).alloc (Nat.le_refl _) _).alloc (by simp) _).trans (HB1.out.mono (by simp; omega))
    have Y1 : Hid (_) := y1
    have Y2 : Hid (_) := y2
    have Y3 : Hid (_) := y3
    clear y1 y2 y3 hs1 HB1 HZ z27 c72 ck hset
    go_wp2_with (first
      | (refine isStore 86 (.tmp 1) (.tmp 14) rfl ?_; refine wpList_store_row rfl 86 (.tmp 1) (.tmp 14) rfl w.heap.size _ rfl rfl 86 _ Y1.out (size27' _ _ _) (by simp only [hc_size]) (hc_one _ _ _) ?_; simp only [Act.put]))
    have x1 : (w1.setRow w.heap.size (hcells (wkG g (padR r n)) (fun _ => 0) n)).heap[w.heap.size]? = some (.cells (hcells (pg g r n) (pr r n) n) 86) := by
      unfold pg pr; rw [if_neg h56, if_neg h56]; exact setRow_heap _ _ _ _ _ _ Y1.out
    have x2 : (w1.setRow w.heap.size (hcells (wkG g (padR r n)) (fun _ => 0) n)).heap[w.heap.size + 1]? = some (.cells (hcells (fun _ => 0) (fun _ => 0) 0) 86) := by rw [setRow_other _ _ _ _ (by omega)]; exact Y2.out
    have x3 : Below w.heap.size w (w1.setRow w.heap.size (hcells (wkG g (padR r n)) (fun _ => 0) n)) := below_setRow Y3.out (Nat.le_refl _) _
    clear Y1 Y2 Y3
    have X1 : Hid (_) := x1
    have X2 : Hid (_) := x2
    have X3 : Hid (_) := x3
    clear x1 x2 x3
    go_loopw [15] (fun i W => ∃ k : Nat, k ≤ 8 ∧ i = .int .i64 k ∧ W.heap[w.heap.size]? = some (.cells (hcells (pg g r n) (lenR (pr r n) n k) n) 86) ∧ W.heap[w.heap.size + 1]? = some (.cells (hcells (fun _ => 0) (fun _ => 0) 0) 86) ∧ Below w.heap.size w W) (fun i _ => 8 - (intOf i).toNat)
    case atStart => exact ⟨0, by omega, rfl, by rw [lenR_zero]; exact X1.out, X2.out, X3.out⟩
    case round =>
      obtain ⟨k, hk, rfl, h1, h2, h3⟩ := hrel
      have D1 : Hid (_) := h1
      have D2 : Hid (_) := h2
      have D3 : Hid (_) := h3
      clear h1 h2 h3 X1 X2 X3
      by_cases hlt : k < 8
      · have q1 : wr.cell? ⟨w.heap.size, 72, none⟩ = some (.int .u64 n) := by
          rw [cell_of_row _ _ _ _ _ _ D1.out, hc_n]
        have q2 : wr.cell? ⟨w.heap.size, 8 + (56 + k), none⟩ = some (.int .u8 (lenR (pr r n) n k (56 + k))) := by
          rw [cell_of_row _ _ _ _ _ _ D1.out, hc_r _ _ _ _ (by omega)]
        have q3 : wr.frozen? ⟨w.heap.size, 8 + (56 + k), none⟩ = false := frozen_of_row D1.out
        have q4 : (k : Int) < 8 := by omega
        go_wp2
        go_roundw
        case rel =>
          refine ⟨k + 1, by omega, by go_num, ?_, ?_, ?_⟩
          · rw [heap_setCell_row _ D1.out, hc_set_r _ _ _ _ _ (by omega)]
            exact congrArg (fun f => some (Obj.cells (hcells (pg g r n) f n) 86)) (lenR_step (pr r n) n k)
          · rw [Below.heap_setCell _ _ _ _ (by simp)]; exact D2.out
          · exact D3.out.setCell (by simp) _
        case measure => simp [intOf]; omega
      · have HK : Hid (k = 8) := by show k = 8; omega
        have hw2 : w.heap.size + 2 ≤ wr.heap.size := by
          have := (Array.getElem?_eq_some_iff.1 D2.out).1; omega
        have HS : Hid (_) := hw2
        clear hw2
        go_wp2_with (first
          | (refine isLoad 86 (.tmp 1) rfl ?_; refine wpList_load_row rfl 86 (.tmp 1) rfl w.heap.size rfl 86 _ (0, 0) _ D1.out Tryz.underlying86 rfl (size27' _ _ _) ?_; simp only [Act.put, List.setIfInBounds_toArray, List.set_cons_succ, List.set_cons_zero]))
        refine (workedIn_any _ _ _ _ (HG.out.below D3.out HG.out.sz) (lenR_bd _ n k (pr_bd r n HR0.out HR1.out).1 (pr_bd r n HR0.out HR1.out).2).1 (lenR_bd _ n k (pr_bd r n HR0.out HR1.out).1 (pr_bd r n HR0.out HR1.out).2).2).mono ?_
        rintro e w2 ⟨rfl, hb2⟩
        have HB2 : Hid (_) := hb2
        clear hb2
        have hr2 : w2.heap[w.heap.size + 1]? = some (.cells (hcells (fun _ => 0) (fun _ => 0) 0) 86) := by rw [HB2.out.block _ (by have := HS.out; omega)]; exact D2.out
        have HR2 : Hid (_) := hr2
        clear hr2
        go_wp2_with (first
          | (refine isStore 86 (.tmp 2) (.tmp 32) rfl ?_; refine wpList_store_row rfl 86 (.tmp 2) (.tmp 32) rfl (w.heap.size + 1) _ rfl rfl 86 _ HR2.out (size27' _ _ _) (by simp only [hc_size]) (hc_one _ _ _) ?_))
        refine bodyPost_ret (v := .agg (hcells (wkG (pg g r n) (lenR (pr r n) n k)) (fun _ => 0) n)) (results_cell_row Tryz.results90 _ _ (w.heap.size + 1) 86 _ (0, 0) _ rfl (setRow_heap _ _ _ _ _ _ HR2.out) Tryz.underlying86 rfl (size27' _ _ _)) rfl ⟨?_, ?_⟩
        · rw [HK.out]; rfl
        · exact below_setRow (D3.out.trans (HB2.out.mono (by have := HS.out; omega))) (by omega) _
end Go.Proofs.YtplhkjkaabgffaaGreatDoor

namespace Go.Proofs.YtplhkjkaabgffaaGreatDoor
open Go.RowKit

/-- What a hash has taken in. -/
structure HS where
  g : Nat → Int
  r : Nat → Int
  n : Nat
def HS.cells (s : HS) : Array Value := hcells s.g s.r s.n
def HS.new : HS := ⟨fun _ => 0, fun _ => 0, 0⟩
/-- one byte more -/
def add1 (s : HS) (b : Int) : HS :=
  if s.n % 64 = 63 then ⟨wkG s.g (upd s.r (s.n % 64) b), fun _ => 0, s.n + 1⟩ else ⟨s.g, upd s.r (s.n % 64) b, s.n + 1⟩
/-- the first m of p -/
def addN (s : HS) (p : Nat → Int) : Nat → HS
  | 0 => s
  | m + 1 => add1 (addN s p m) (p m)
/-- c bytes of q laid over r from h on -/
def overlay (r : Nat → Int) (h c : Nat) (q : Nat → Int) : Nat → Int := fun i => if h ≤ i ∧ i < h + c then q (i - h) else r i

theorem addN_n (s : HS) (p : Nat → Int) (m : Nat) : (addN s p m).n = s.n + m := by
  induction m with
  | zero => rfl
  | succ m ih =>
    simp only [addN, add1]
    split <;> simp only <;> omega
theorem addN_add (s : HS) (p : Nat → Int) (m c : Nat) : addN s p (m + c) = addN (addN s p m) (fun i => p (m + i)) c := by
  induction c with
  | zero => rfl
  | succ c ih => rw [Nat.add_succ]; simp only [addN]; rw [ih]
theorem addN_congr (s : HS) {p q : Nat → Int} (m : Nat) (h : ∀ i, i < m → p i = q i) : addN s p m = addN s q m := by
  induction m with
  | zero => rfl
  | succ m ih => simp only [addN]; rw [ih (fun i hi => h i (by omega)), h m (by omega)]
theorem overlay_zero (r : Nat → Int) (h : Nat) (q : Nat → Int) : overlay r h 0 q = r := by
  funext i; simp only [overlay]; rw [if_neg (by omega)]
theorem overlay_succ (r : Nat → Int) (h c : Nat) (q : Nat → Int) : upd (overlay r h c q) (h + c) (q c) = overlay r h (c + 1) q := by
  funext i
  simp only [upd, overlay]
  by_cases e : i = h + c
  · subst e; simp
  · by_cases h2 : h ≤ i ∧ i < h + c
    · rw [if_neg e, if_pos h2, if_pos (by omega)]
    · rw [if_neg e, if_neg h2, if_neg (by omega)]
/-- a chunk that does not fill the block -/
theorem addN_part (t : HS) (q : Nat → Int) (c : Nat) (hc : t.n % 64 + c < 64) : addN t q c = ⟨t.g, overlay t.r (t.n % 64) c q, t.n + c⟩ := by
  induction c with
  | zero => rw [overlay_zero]; rfl
  | succ c ih =>
    simp only [addN]
    rw [ih (by omega)]
    unfold add1
    simp only
    have e : (t.n + c) % 64 = t.n % 64 + c := by omega
    rw [e, if_neg (by omega), overlay_succ]
    rfl
/-- a chunk that fills it -/
theorem addN_full (t : HS) (q : Nat → Int) (c : Nat) (hc : t.n % 64 + c = 64) (h0 : 0 < c) : addN t q c = ⟨wkG t.g (overlay t.r (t.n % 64) c q), fun _ => 0, t.n + c⟩ := by
  obtain ⟨d, rfl⟩ : ∃ d, c = d + 1 := ⟨c - 1, by omega⟩
  simp only [addN]
  rw [addN_part t q d (by omega)]
  unfold add1
  simp only
  have e : (t.n + d) % 64 = t.n % 64 + d := by omega
  rw [e, if_pos (by omega), overlay_succ]
  rfl
def HS.ok (s : HS) : Prop := (∀ i, 0 ≤ s.r i) ∧ (∀ i, s.r i < 256)
theorem ok_new : HS.new.ok := ⟨fun _ => by simp [HS.new], fun _ => by simp [HS.new]⟩
theorem ok_add1 {s : HS} (h : s.ok) {b : Int} (h0 : 0 ≤ b) (h1 : b < 256) : (add1 s b).ok := by
  unfold add1 HS.ok
  split
  · exact ⟨fun _ => by simp, fun _ => by simp⟩
  · refine ⟨fun i => ?_, fun i => ?_⟩ <;> simp only [upd] <;> split
    · exact h0
    · exact h.1 i
    · exact h1
    · exact h.2 i
theorem ok_addN {s : HS} (h : s.ok) {p : Nat → Int} {m : Nat} (hp : ∀ i, i < m → 0 ≤ p i ∧ p i < 256) : (addN s p m).ok := by
  induction m with
  | zero => exact h
  | succ m ih => exact ok_add1 (ih fun i hi => hp i (by omega)) (hp m (by omega)).1 (hp m (by omega)).2
theorem ok_overlay {r : Nat → Int} {h c : Nat} {q : Nat → Int} (hr : (∀ i, 0 ≤ r i) ∧ (∀ i, r i < 256)) (hq : ∀ i, i < c → 0 ≤ q i ∧ q i < 256) : (∀ i, 0 ≤ overlay r h c q i) ∧ (∀ i, overlay r h c q i < 256) := by
  refine ⟨fun i => ?_, fun i => ?_⟩ <;> simp only [overlay] <;> split
  · exact (hq _ (by omega)).1
  · exact hr.1 i
  · exact (hq _ (by omega)).2
  · exact hr.2 i

/-- the bytes of a chunk, as cells -/
def chunk (c : Nat) (q : Nat → Int) : List Value := (List.range c).map fun i => Value.int .u8 (q i)
theorem chunk_len (c : Nat) (q : Nat → Int) : (chunk c q).length = c := by simp [chunk]
theorem chunk_get {c : Nat} {q : Nat → Int} {j : Nat} {v : Value} (h : (chunk c q)[j]? = some v) : j < c ∧ v = .int .u8 (q j) := by
  have hj : j < c := by have := (List.getElem?_eq_some_iff.1 h).1; rwa [chunk_len] at this
  refine ⟨hj, ?_⟩
  simp [chunk, hj] at h
  exact h.symm
theorem chunk_one (c : Nat) (q : Nat → Int) : ∀ v ∈ chunk c q, v.oneCell' = true := by
  intro v hv
  simp only [chunk, List.mem_map] at hv
  obtain ⟨i, _, rfl⟩ := hv
  rfl
theorem copied (g r : Nat → Int) (n : Int) (h c : Nat) (q : Nat → Int) (hc : h + c ≤ 64) :
    ((hcells g r n).toList.take (8 + h) ++ (chunk c q ++ (hcells g r n).toList.drop (8 + h + (chunk c q).length))).toArray = hcells g (overlay r h c q) n := by
  have hl : (hcells g r n).toList.length = 73 := hc_len g r n
  have hk := chunk_len c q
  have get : ∀ i, ((hcells g r n).toList.take (8 + h) ++ (chunk c q ++ (hcells g r n).toList.drop (8 + h + (chunk c q).length))).toArray[i]? = if 8 + h ≤ i ∧ i < 8 + h + c then (chunk c q)[i - (8 + h)]? else (hcells g r n)[i]? := by
    intro i
    rw [hk]
    simp only [List.getElem?_toArray]
    by_cases h1 : i < 8 + h
    · rw [if_neg (by omega), List.getElem?_append_left (by simp [hl]; omega), List.getElem?_take, if_pos h1, Array.getElem?_toList]
    · by_cases h2 : i < 8 + h + c
      · rw [if_pos (by omega), List.getElem?_append_right (by simp [hl]; omega), List.length_take, hl, Nat.min_eq_left (by omega), List.getElem?_append_left (by rw [hk]; omega)]
      · rw [if_neg (by omega), List.getElem?_append_right (by simp [hl]; omega), List.length_take, hl, Nat.min_eq_left (by omega), List.getElem?_append_right (by rw [hk]; omega), hk, List.getElem?_drop, show 8 + h + c + (i - (8 + h) - c) = i by omega, Array.getElem?_toList]
  refine hc_ext ?_ ?_ ?_ ?_
  · simp [hl, hk]; omega
  · intro i hi; rw [get, if_neg (by omega), hc_g _ _ _ i hi]
  · intro i hi
    rw [get]
    simp only [overlay]
    by_cases h1 : h ≤ i ∧ i < h + c
    · rw [if_pos (by omega), if_pos h1, show 8 + i - (8 + h) = i - h by omega]
      simp [chunk, show i - h < c by omega]
    · rw [if_neg (by omega), if_neg h1, hc_r _ _ _ i hi]
  · rw [get, if_neg (by omega), hc_n]
end Go.Proofs.YtplhkjkaabgffaaGreatDoor

namespace Go.Proofs.YtplhkjkaabgffaaGreatDoor
open Go.RowKit

theorem built27 : (Tryz.prog.built 86 []).getD #[] = hcells (fun _ => 0) (fun _ => 0) 0 := by kernel_rfl
theorem isBuilt27 : (Tryz.prog.built 86 []).isSome = true := by kernel_rfl
theorem wpList_build27 {ops : Array Oper} {rest : List Oper} {o : Oper} {a : Act} {w : World} {Q : Exit → Act → World → Prop} (hg : o.guard = none) (ho : o.op = .build 86 #[])
    (h : wpList Tryz.prog ops Q rest (a.put o.dst (.agg (hcells (fun _ => 0) (fun _ => 0) 0))) w) : wpList Tryz.prog ops Q (o :: rest) a w := by
  have e0 : ((#[] : Array (Nat × Operand)).map fun (i, x) => (i, a.eval x)).toList = [] := by simp
  refine wpList_build hg 86 #[] ho (by rw [e0]; exact isBuilt27) ?_
  rw [e0, built27]
  exact h

set_option maxHeartbeats 400000 in
theorem new_any (w : World) :
    Calls Tryz.prog 69 #[] w fun e w' => e = .returned (.agg HS.new.cells) ∧ Below w.heap.size w w' := by
  have z27 := zero27
  go_enter Tryz.func69, Tryz.ntmps69
  go_wp2_with (first
    | (refine wpList_build27 rfl rfl ?_; simp only [Act.put, List.setIfInBounds_toArray, List.set_cons_succ, List.set_cons_zero])
    | (refine isStore 86 (.tmp 0) (.tmp 1) rfl ?_; refine wpList_store_row rfl 86 (.tmp 0) (.tmp 1) rfl w.heap.size _ rfl rfl 86 _ (heap_alloc_new _ _) (size27' _ _ _) (by simp only [hc_size]) (hc_one _ _ _) ?_))
  refine bodyPost_ret (v := .agg HS.new.cells) (results_cell_row Tryz.results69 _ _ w.heap.size 86 _ (0, 0) _ rfl (setRow_heap _ _ _ _ _ _ (heap_alloc_new _ _)) Tryz.underlying86 rfl (size27' _ _ _)) rfl ⟨rfl, ?_⟩
  exact below_setRow ((Below.refl _ _).alloc (Nat.le_refl _) _) (Nat.le_refl _) _

/-- The digest of what was taken in. -/
def sumD (s : HS) : Nat → Int := digB (stW (padG s.g s.r s.n))

theorem zero28 : ∀ w, (zeroValue 44).run Tryz.prog w = .ok (.agg (tab8 32 (fun _ => 0))) w :=
  (zero_of_info (n := 32) (by kernel_rfl)).1

set_option maxHeartbeats 400000 in
theorem hsum_any (s : HS) (w : World) (hG : Glob w) (hs : s.ok) :
    Calls Tryz.prog 81 #[.agg s.cells] w fun e w' => e = .returned (.agg (tab8 32 (sumD s))) ∧ Below w.heap.size w w' := by
  have HG : Hid (_) := hG
  have HS' : Hid (_) := hs
  clear hG hs
  obtain ⟨g, r, n⟩ := s
  show Calls Tryz.prog 81 #[.agg (hcells g r n)] w fun e w' => e = .returned (.agg (tab8 32 (sumD ⟨g, r, n⟩))) ∧ Below w.heap.size w w'
  have z28 := zero28
  have hz2 := heap2 w (.cells (hcells g r n) 86) (.cells (tab8 32 (fun _ => 0)) 44)
  have HZ : Hid (_) := hz2
  clear hz2
  go_enter Tryz.func81, Tryz.ntmps81
  go_wp2_with (first
    | (refine isLoad 86 (.tmp 1) rfl ?_; refine wpList_load_row rfl 86 (.tmp 1) rfl w.heap.size rfl 86 _ (0, 0) _ HZ.out.1 Tryz.underlying86 rfl (size27' _ _ _) ?_; simp only [Act.put, List.setIfInBounds_toArray, List.set_cons_succ, List.set_cons_zero]))
  have hVB : Below w.heap.size w ((w.alloc (.cells (hcells g r n) 86)).alloc (.cells (tab8 32 (fun _ => 0)) 44)) := ((Below.refl _ _).alloc (Nat.le_refl _) _).alloc (by simp) _
  have HV : Hid (_) := hVB
  clear hVB
  refine (padded_any g r n _ (HG.out.below HV.out HG.out.sz) HS'.out.1 HS'.out.2).mono ?_
  rintro e w1 ⟨rfl, hb1⟩
  have HB1 : Hid (Below (w.heap.size + 2) ((w.alloc (.cells (hcells g r n) 86)).alloc (.cells (tab8 32 (fun _ => 0)) 44)) w1) := by
    have hsz : ((w.alloc (.cells (hcells g r n) 86)).alloc (.cells (tab8 32 (fun _ => 0)) 44)).heap.size = w.heap.size + 2 := by simp
    rw [← hsz]; exact hb1
  clear hb1
  have G1 : Hid (Glob w1) := (HG.out.below HV.out HG.out.sz).below HB1.out (by omega)
  go_wp2_with fail
  refine (state_any _ (padG g r n) hW _ G1.out.sz G1.out.h (hc_g _ _ _)).mono ?_
  rintro e w2 ⟨rfl, hb2⟩
  have HB2 : Hid (_) := hb2
  clear hb2
  go_wp2_with fail
  refine (digest_any _ (stW (padG g r n)) _ (tab32_get 8 _)).mono ?_
  rintro e w3 ⟨rfl, hb3⟩
  have hs1 : w.heap.size + 2 ≤ w1.heap.size := by have := HB1.out.size; simpa using this
  have hs2 := HB2.out.size
  have hs3 := hb3.size
  have hbb : Below (w.heap.size + 2) ((w.alloc (.cells (hcells g r n) 86)).alloc (.cells (tab8 32 (fun _ => 0)) 44)) w3 := (HB1.out.trans (HB2.out.mono hs1)).trans (hb3.mono (by omega))
  have hr3 : w3.heap[w.heap.size + 1]? = some (.cells (tab8 32 (fun _ => 0)) 44) := by rw [hbb.block _ (by omega)]; exact HZ.out.2
  have hB3 : Below w.heap.size w w3 := HV.out.trans (hbb.mono (by omega))
  have HR3 : Hid (_) := hr3
  have H3 : Hid (_) := hB3
  clear hr3 hB3 hbb hs1 hs2 hs3 hb3 HB1 HB2 HZ HV z28
  go_wp2_with (first
    | (refine isStore 44 (.tmp 2) (.tmp 6) rfl ?_; refine wpList_store_row rfl 44 (.tmp 2) (.tmp 6) rfl (w.heap.size + 1) _ rfl rfl 44 _ HR3.out (size28' _) (by simp only [tab8_size]) (tab8_one _ _) ?_))
  refine bodyPost_ret (v := .agg (tab8 32 (sumD ⟨g, r, n⟩))) (results_cell_row Tryz.results81 _ _ (w.heap.size + 1) 44 _ (0, 0) _ rfl (setRow_heap _ _ _ _ _ _ HR3.out) Tryz.underlying44 rfl (size28' _)) rfl ⟨rfl, ?_⟩
  exact below_setRow H3.out (by omega) _
end Go.Proofs.YtplhkjkaabgffaaGreatDoor
