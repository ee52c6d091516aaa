import Derived.Test.YthmlfglllhmimaaGreatDoorA6
import Derived.Laws.CopyOwn
namespace Go.Proofs.YthmlfglllhmimaaGreatDoor
open Go.RowKit

/-- The eight words behind what was taken in. -/
def stW (g : Nat → Int) : Nat → Int := fun i => (hW i + g i) % 4294967296
/-- grown behind one block more. -/
def wkG (g r : Nat → Int) : Nat → Int := fun i => (g i + iterR kW (sched r) (stW g) 64 i) % 4294967296

theorem heap2 (w : World) (A B : Obj) : ((w.alloc A).alloc B).heap[w.heap.size]? = some A ∧ ((w.alloc A).alloc B).heap[w.heap.size + 1]? = some B := by
  have h := heap3 w A B B 0
  refine ⟨?_, ?_⟩
  · have := Below.heap_alloc ((w.alloc A).alloc B) B w.heap.size (by simp; omega)
    rw [← this]; exact h.1
  · have := Below.heap_alloc ((w.alloc A).alloc B) B (w.heap.size + 1) (by simp)
    rw [← this]; exact h.2.1

/-- THE CLASS OF WORLDS THROUGH WHICH A QUIET REGION GOES: below B as V was. -/
def CB (B : Nat) (V w' : World) : Prop := Below B V w'
theorem wp_region_cb {P : Program} {id : Nat} {Q : Exit → Act → World → Prop} {a : Act} {w V : World} {B : Nat} {l : List Oper} (hm : P.follows .mixedOrders = true) (hB : Region.lexB .any l.toArray = true) (h0 : CB B V w)
    (h : wpQuiet P l.toArray (CB B V) (fun a' => ∀ w', CB B V w' → Q .normal a' w') l a) : (Code.region id l.toArray true).wp P Q a w :=
  wp_region_quiet (C := CB B V) hm hB ⟨h0.os, h0.tape, h0.output, h0.size, h0.block⟩ (by simpa using h)
theorem wpQuiet_load_mid {P : Program} {ops : Array Oper} {C : World → Prop} {Q : Act → Prop} {rest : List Oper} {op : Oper} {a : Act} (hgd : op.guard = none) (ty : TypeId) (x : Operand) (ho : op.op = .load ty x)
    (b o : Nat) (hx : a.eval x = .pointer (some ⟨b, o, none⟩)) (cs : Array Value) (d : TypeDesc) (hc : ∀ w, C w → w.rangeAt b o cs.toList)
    (hu : P.underlying ty = some d) (hd : d.isRow = true) (hi : (P.info? ty).map (·.size) = some cs.size)
    (h : wpQuiet P ops C Q rest (a.put op.dst (.agg cs))) : wpQuiet P ops C Q (op :: rest) a := by
  have hw : Region.wanted op (yielded ops a.tmps) = true := by simp [Region.wanted, hgd]
  unfold wpQuiet
  rw [if_pos hw]
  refine ⟨_, fun w hC => ?_, h⟩
  unfold Oper.quietAt execOp
  have e := run_loadVar_mid (P := P) w b o ty cs.toList d (hc w hC) hu hd (by simpa using hi)
  simp only [ho, hx, Instr.loadAt, Instr.sureAddr, Sem.run_bind, Sem.run_pure, Result.andThen_ok, e]
  exact ⟨rfl, rfl⟩

theorem cb_call {P : Program} {f : FuncId} {args : Array Value} {V w1 : World} {B : Nat} {v : Value} (hC : CB B V w1) (hB : B ≤ V.heap.size)
    (h : Calls P f args w1 fun e w' => e = .returned v ∧ Below w1.heap.size w1 w') : Calls P f args w1 fun e w'' => e = .returned v ∧ CB B V w'' :=
  h.mono fun _ _ ⟨he, hb⟩ => ⟨he, Below.trans hC (hb.mono (Nat.le_trans hB (Below.size hC)))⟩

theorem frozen_of_row {W : World} {b o : Nat} {c : Array Value} {t : TypeId} (h : W.heap[b]? = some (.cells c t)) : W.frozen? ⟨b, o, none⟩ = false := by simp [World.frozen?, h]
theorem there_of_row {W : World} {b o n : Nat} {c : Array Value} {t : TypeId} (h : W.heap[b]? = some (.cells c t)) (hn : o + n ≤ c.size) : W.there b o n := fun j hj =>
  ⟨by rw [cell_of_row _ _ _ _ _ _ h]; simp; omega, frozen_of_row h⟩
theorem heap_setCell_row {W : World} {b k : Nat} {c : Array Value} {t : TypeId} (v : Value) (h : W.heap[b]? = some (.cells c t)) : (W.setCell ⟨b, k, none⟩ v).heap[b]? = some (.cells (c.setIfInBounds k v) t) := by
  rw [setCell_eq_setRow W b k c t _ v h]; exact setRow_heap _ _ _ _ _ _ h
theorem index23 (f : Nat → Int) (k : Nat) (h : k < 8) (W : World) : (Instr.index 158 (.agg (tab32 8 f)) (.int .i64 (k : Int))).run Tryz.prog W = .ok (.int .u32 (f k)) W := by
  have h1 := tab32_get 8 f k h
  have h2 : (k : Int) < 8 := by omega
  simp [Instr.index, asIntOf, run_underlying Tryz.underlying158, h1, go_sem]
  intro h'
  omega
theorem gk_step (g f : Nat → Int) (k : Nat) : upd (fun i => if i < k then f i else g i) k (f k) = fun i => if i < k + 1 then f i else g i := by
  funext i
  simp only [upd]
  by_cases h : i = k
  · subst h; simp
  · by_cases h2 : i < k
    · simp [h, h2, show i < k + 1 by omega]
    · simp [h, h2, show ¬ i < k + 1 by omega]

theorem heap_setCells_other (vs : List Value) : ∀ (W : World) (b o k : Nat), k ≠ b → (W.setCells b o vs).heap[k]? = W.heap[k]? := by
  induction vs with
  | nil => intro W b o k _; rfl
  | cons v vs ih =>
    intro W b o k h
    rw [World.setCells, ih _ _ _ _ h, Below.heap_setCell _ _ _ _ (by simpa using h)]

theorem isLoad {P : Program} {ops : Array Oper} {rest : List Oper} {o : Oper} {a : Act} {w : World} {Q : Exit → Act → World → Prop} (ty : TypeId) (x : Operand) (_ : o.op = .load ty x) (h : wpList P ops Q (o :: rest) a w) : wpList P ops Q (o :: rest) a w := h
theorem isStore {P : Program} {ops : Array Oper} {rest : List Oper} {o : Oper} {a : Act} {w : World} {Q : Exit → Act → World → Prop} (ty : TypeId) (x y : Operand) (_ : o.op = .store ty x y) (h : wpList P ops Q (o :: rest) a w) : wpList P ops Q (o :: rest) a w := h

theorem built24 : (Tryz.prog.built 159 []).getD #[] = tab8 64 (fun _ => 0) := by kernel_rfl
theorem isBuilt24 : (Tryz.prog.built 159 []).isSome = true := by kernel_rfl
theorem wpList_build24 {ops : Array Oper} {rest : List Oper} {o : Oper} {a : Act} {w : World} {Q : Exit → Act → World → Prop} (hg : o.guard = none) (ho : o.op = .build 159 #[])
    (h : wpList Tryz.prog ops Q rest (a.put o.dst (.agg (tab8 64 (fun _ => 0)))) w) : wpList Tryz.prog ops Q (o :: rest) a w := by
  have e0 : ((#[] : Array (Nat × Operand)).map fun (i, x) => (i, a.eval x)).toList = [] := by simp
  refine wpList_build hg 159 #[] ho (by rw [e0]; exact isBuilt24) ?_
  rw [e0, built24]
  exact h

theorem after_rest {W : World} {b : Nat} {g r : Nat → Int} {n : Int} (r' : Nat → Int) (h : W.heap[b]? = some (.cells (hcells g r n) 161)) : (W.setCells b 8 (tab8 64 r').toList).heap[b]? = some (.cells (hcells g r' n) 161) := by
  have e := heap_setCells (tab8 64 r').toList W b 8 _ 161 (0, 0) h
  rw [hc_splice] at e
  exact e.1

theorem zero27 : ∀ w, (zeroValue 161).run Tryz.prog w = .ok (.agg (hcells (fun _ => 0) (fun _ => 0) 0)) w :=
  (zero_of_info (n := 73) (by kernel_rfl)).1
theorem hc_len (g r : Nat → Int) (n : Int) : (hcells g r n).toList.length = 73 := by simp [hc_size]
/-- What the block B holds. -/
theorem range_g {W : World} {B : Nat} {g r : Nat → Int} {n : Int} {t : TypeId} (h : W.heap[B]? = some (.cells (hcells g r n) t)) : W.rangeAt B 0 (hcells g r n).toList := by
  intro j v hv
  rw [cell_of_row W B (0 + j) _ t (0, 0) h, Nat.zero_add]
  simpa using hv
theorem range_r {W : World} {B : Nat} {g r : Nat → Int} {n : Int} {t : TypeId} (h : W.heap[B]? = some (.cells (hcells g r n) t)) : W.rangeAt B 8 (tab8 64 r).toList := by
  intro j v hv
  have hj : j < 64 := by have := (List.getElem?_eq_some_iff.1 hv).1; simpa [tab8_size] using this
  rw [cell_of_row W B (8 + j) _ t (0, 0) h, hc_r _ _ _ _ hj]
  have := tab8_get 64 r j hj
  rw [← this]
  simpa using hv

set_option maxRecDepth 20000 in
set_option maxHeartbeats 300000 in
theorem workedIn_any (g r : Nat → Int) (n : Int) (w : World) (hG : Glob w) (hr0 : ∀ i, 0 ≤ r i) (hr1 : ∀ i, r i < 256) :
    Calls Tryz.prog 103 #[.agg (hcells g r n)] w fun e w' => e = .returned (.agg (hcells (wkG g r) (fun _ => 0) n)) ∧ Below w.heap.size w w' := by
  have HG : Hid (_) := hG
  clear hG
  go_enter Tryz.func103, Tryz.ntmps103
  have z27 := zero27
  go_wp2
  clear z27
  obtain ⟨V, hV⟩ : ∃ V, V = (w.alloc (.cells (hcells g r n) 161)).alloc (.cells (hcells (fun _ => 0) (fun _ => 0) 0) 161) := ⟨_, rfl⟩
  rw [← hV]
  have hB := heap2 w (.cells (hcells g r n) 161) (.cells (hcells (fun _ => 0) (fun _ => 0) 0) 161)
  rw [← hV] at hB
  have hVB : Below w.heap.size w V := by rw [hV]; exact ((Below.refl _ _).alloc (Nat.le_refl _) _).alloc (by simp) _
  have hVs : V.heap.size = w.heap.size + 2 := by rw [hV]; simp
  have hVG : Glob V := HG.out.below hVB HG.out.sz
  have A1 : Hid (_) := hB
  have A2 : Hid (_) := hVB
  have A3 : Hid (_) := hVs
  have A4 : Hid (_) := hVG
  clear hV hB hVB hVs hVG
  refine wp_region_cb (V := V) (B := w.heap.size + 2) (by kernel_rfl) (by kernel_rfl) (Below.refl _ _) ?_
  refine wpQuiet_load_mid rfl 161 _ rfl _ _ rfl (hcells g r n) _ (fun w1 hC => range_g (by rw [Below.block hC _ (by omega)]; exact A1.out.1)) Tryz.underlying161 rfl (size27' _ _ _) ?_
  simp only [Act.put, List.setIfInBounds_toArray, List.set_cons_succ, List.set_cons_zero]
  quiet_step ((intro hC; exact cb_call hC (Nat.le_of_eq A3.out.symm) (state_any (hcells g r n) g hW _ (A4.out.below hC (Nat.le_trans HG.out.sz (Nat.le_add_right _ 2))).sz (A4.out.below hC (Nat.le_trans HG.out.sz (Nat.le_add_right _ 2))).h (hc_g g r n))))
  quiet_step ((intro _; rfl))
  refine wpQuiet_load_mid rfl 159 _ rfl w.heap.size 8 (by first | rfl | simp [Act.eval]) (tab8 64 r) _ (fun w1 hC => range_r (by rw [Below.block hC _ (by omega)]; exact A1.out.1)) Tryz.underlying159 rfl (size24' _) ?_
  simp only [Act.put, List.setIfInBounds_toArray, List.set_cons_succ, List.set_cons_zero]
  quiet_step ((intro hC; exact cb_call hC (Nat.le_of_eq A3.out.symm) (stirred_any _ (stW g) r kW _ (A4.out.below hC (Nat.le_trans HG.out.sz (Nat.le_add_right _ 2))).sz hr0 hr1 (A4.out.below hC (Nat.le_trans HG.out.sz (Nat.le_add_right _ 2))).k (tab32_get 8 _))))
  quiet_step ((intro _; rfl))
  refine wpQuiet_nil ?_
  intro w1 hw1
  have b1 : w1.heap[w.heap.size]? = some (.cells (hcells g r n) 161) := by rw [Below.block hw1 _ (by omega)]; exact A1.out.1
  have b2 : w1.heap[w.heap.size + 1]? = some (.cells (hcells (fun _ => 0) (fun _ => 0) 0) 161) := by rw [Below.block hw1 _ (by omega)]; exact A1.out.2
  have b3 : Below w.heap.size w w1 := A2.out.trans (Below.mono hw1 (by omega))
  have C1 : Hid (_) := b1
  have C2 : Hid (_) := b2
  have C3 : Hid (_) := b3
  clear b1 b2 b3 hw1 A1 A2 A3 A4 HG hr0 hr1
  go_wp2
  go_loopw [10] (fun i W => ∃ k : Nat, k ≤ 8 ∧ i = .int .i64 k ∧ W.heap[w.heap.size]? = some (.cells (hcells (fun i => if i < k then wkG g r i else g i) r n) 161) ∧ W.heap[w.heap.size + 1]? = some (.cells (hcells (fun _ => 0) (fun _ => 0) 0) 161) ∧ Below w.heap.size w W) (fun i _ => 8 - (intOf i).toNat)
  case atStart => exact ⟨0, by omega, rfl, by simpa using C1.out, C2.out, C3.out⟩
  case round =>
    obtain ⟨k, hk, rfl, h1, h2, h3⟩ := hrel
    have D1 : Hid (_) := h1
    have D2 : Hid (_) := h2
    have D3 : Hid (_) := h3
    clear h1 h2 h3 C1 C2 C3
    by_cases hlt : k < 8
    · have q1 : wr.cell? ⟨w.heap.size, k, none⟩ = some (.int .u32 (g k)) := by
        rw [cell_of_row _ _ _ _ _ _ D1.out, hc_g _ _ _ _ hlt]; simp
      have q2 : wr.frozen? ⟨w.heap.size, k, none⟩ = false := frozen_of_row D1.out
      have q3 := index23 (iterR kW (sched r) (stW g) 64) k hlt
      have q4 : (k : Int) < 8 := by omega
      go_wp2
      go_roundw
      case rel =>
        refine ⟨k + 1, by omega, by go_num, ?_, ?_, ?_⟩
        · rw [heap_setCell_row _ D1.out, hc_set_g _ _ _ _ _ hlt]
          exact congrArg (fun f => some (Obj.cells (hcells f r n) 161)) (gk_step g (wkG g r) k)
        · rw [Below.heap_setCell _ _ _ _ (by simp)]; exact D2.out
        · exact D3.out.setCell (by simp) _
      case measure => simp [intOf]; omega
    · have hk8 : k = 8 := by omega
      have HK : Hid (k = 8) := hk8
      clear hk8
      go_wp2_with (first
        | (refine wpList_build24 rfl rfl ?_; simp only [Act.put, List.setIfInBounds_toArray, List.set_cons_succ, List.set_cons_zero])
        | (refine isStore 159 (.tmp 24) (.tmp 23) rfl ?_; refine wpList_store_mid rfl 159 (.tmp 24) (.tmp 23) rfl w.heap.size 8 (tab8 64 (fun _ => 0)) rfl rfl (there_of_row D1.out (by rw [hc_size, tab8_size]; omega)) (size24' _) (tab8_one _ _) ?_; simp only [Act.put])
        | (refine isLoad 161 (.tmp 1) rfl ?_; refine wpList_load_row rfl 161 (.tmp 1) rfl w.heap.size rfl 161 _ (0, 0) _ (after_rest _ D1.out) Tryz.underlying161 rfl (size27' _ _ _) ?_; simp only [Act.put, List.setIfInBounds_toArray, List.set_cons_succ, List.set_cons_zero])
        | (refine isStore 161 (.tmp 2) (.tmp 25) rfl ?_; refine wpList_store_row rfl 161 (.tmp 2) (.tmp 25) rfl (w.heap.size + 1) _ rfl rfl 161 _ (by rw [heap_setCells_other _ _ _ _ _ (by omega)]; exact D2.out) (size27' _ _ _) (by simp only [hc_size]) (hc_one _ _ _) ?_))
      have e1 := heap_setCells (tab8 64 (fun _ => 0)).toList wr w.heap.size 8 _ 161 (0, 0) D1.out
      have e2 : (wr.setCells w.heap.size 8 (tab8 64 (fun _ => 0)).toList).heap[w.heap.size + 1]? = some (.cells (hcells (fun _ => 0) (fun _ => 0) 0) 161) := by rw [heap_setCells_other _ _ _ _ _ (by omega)]; exact D2.out
      refine bodyPost_ret (v := .agg (hcells (fun i => if i < k then wkG g r i else g i) (fun _ => 0) n)) (results_cell_row Tryz.results103 _ _ (w.heap.size + 1) 161 _ (0, 0) _ rfl (setRow_heap _ _ _ _ _ _ e2) Tryz.underlying161 rfl (size27' _ _ _)) rfl ⟨?_, ?_⟩
      · refine congrArg (fun c => Ending.returned (Value.agg c)) ?_
        refine hc_ext (hc_size _ _ _) ?_ (hc_r _ _ _) (hc_n _ _ _)
        intro i hi
        rw [hc_g _ _ _ i hi, HK.out]
        simp [hi]
      · exact below_setRow (D3.out.trans e1.2.1) (by omega) _
end Go.Proofs.YthmlfglllhmimaaGreatDoor

namespace Go.Proofs.YthmlfglllhmimaaGreatDoor
open Go.RowKit

def lenB (n : Nat) (i : Nat) : Int := IntKind.u64.wrap ((n : Int) * 8) / 2 ^ (56 - 8 * i) % 256
/-- the byte 80 behind what was taken in -/
def padR (r : Nat → Int) (n : Nat) : Nat → Int := upd r (n % 64) 128
def pg (g r : Nat → Int) (n : Nat) : Nat → Int := if n % 64 < 56 then g else wkG g (padR r n)
def pr (r : Nat → Int) (n : Nat) : Nat → Int := if n % 64 < 56 then padR r n else fun _ => 0
/-- k bytes of the length laid into the block's end -/
def lenR (r : Nat → Int) (n k : Nat) : Nat → Int := fun i => if 56 ≤ i ∧ i < 56 + k then lenB n (i - 56) else r i
def padG (g r : Nat → Int) (n : Nat) : Nat → Int := wkG (pg g r n) (lenR (pr r n) n 8)

end Go.Proofs.YthmlfglllhmimaaGreatDoor

namespace Go.Proofs.YthmlfglllhmimaaGreatDoor
open Go.RowKit

/-- What a hash has taken in. -/
structure HS where
  g : Nat → Int
  r : Nat → Int
  n : Nat
def HS.cells (s : HS) : Array Value := hcells s.g s.r s.n
def HS.new : HS := ⟨fun _ => 0, fun _ => 0, 0⟩
/-- one byte more -/
def add1 (s : HS) (b : Int) : HS :=
  if s.n % 64 = 63 then ⟨wkG s.g (upd s.r (s.n % 64) b), fun _ => 0, s.n + 1⟩ else ⟨s.g, upd s.r (s.n % 64) b, s.n + 1⟩
/-- the first m of p -/
def addN (s : HS) (p : Nat → Int) : Nat → HS
  | 0 => s
  | m + 1 => add1 (addN s p m) (p m)
/-- c bytes of q laid over r from h on -/
def overlay (r : Nat → Int) (h c : Nat) (q : Nat → Int) : Nat → Int := fun i => if h ≤ i ∧ i < h + c then q (i - h) else r i

theorem addN_n (s : HS) (p : Nat → Int) (m : Nat) : (addN s p m).n = s.n + m := by
  induction m with
  | zero => rfl
  | succ m ih =>
    simp only [addN, add1]
    split <;> simp only <;> omega
theorem addN_add (s : HS) (p : Nat → Int) (m c : Nat) : addN s p (m + c) = addN (addN s p m) (fun i => p (m + i)) c := by
  induction c with
  | zero => rfl
  | succ c ih => rw [Nat.add_succ]; simp only [addN]; rw [ih]
theorem overlay_zero (r : Nat → Int) (h : Nat) (q : Nat → Int) : overlay r h 0 q = r := by
  funext i; simp only [overlay]; rw [if_neg (by omega)]
theorem overlay_succ (r : Nat → Int) (h c : Nat) (q : Nat → Int) : upd (overlay r h c q) (h + c) (q c) = overlay r h (c + 1) q := by
  funext i
  simp only [upd, overlay]
  by_cases e : i = h + c
  · subst e; simp
  · by_cases h2 : h ≤ i ∧ i < h + c
    · rw [if_neg e, if_pos h2, if_pos (by omega)]
    · rw [if_neg e, if_neg h2, if_neg (by omega)]
/-- a chunk that does not fill the block -/
theorem addN_part (t : HS) (q : Nat → Int) (c : Nat) (hc : t.n % 64 + c < 64) : addN t q c = ⟨t.g, overlay t.r (t.n % 64) c q, t.n + c⟩ := by
  induction c with
  | zero => rw [overlay_zero]; rfl
  | succ c ih =>
    simp only [addN]
    rw [ih (by omega)]
    unfold add1
    simp only
    have e : (t.n + c) % 64 = t.n % 64 + c := by omega
    rw [e, if_neg (by omega), overlay_succ]
    rfl
/-- a chunk that fills it -/
theorem addN_full (t : HS) (q : Nat → Int) (c : Nat) (hc : t.n % 64 + c = 64) (h0 : 0 < c) : addN t q c = ⟨wkG t.g (overlay t.r (t.n % 64) c q), fun _ => 0, t.n + c⟩ := by
  obtain ⟨d, rfl⟩ : ∃ d, c = d + 1 := ⟨c - 1, by omega⟩
  simp only [addN]
  rw [addN_part t q d (by omega)]
  unfold add1
  simp only
  have e : (t.n + d) % 64 = t.n % 64 + d := by omega
  rw [e, if_pos (by omega), overlay_succ]
  rfl
def HS.ok (s : HS) : Prop := (∀ i, 0 ≤ s.r i) ∧ (∀ i, s.r i < 256)
theorem ok_add1 {s : HS} (h : s.ok) {b : Int} (h0 : 0 ≤ b) (h1 : b < 256) : (add1 s b).ok := by
  unfold add1 HS.ok
  split
  · exact ⟨fun _ => by simp, fun _ => by simp⟩
  · refine ⟨fun i => ?_, fun i => ?_⟩ <;> simp only [upd] <;> split
    · exact h0
    · exact h.1 i
    · exact h1
    · exact h.2 i
theorem ok_addN {s : HS} (h : s.ok) {p : Nat → Int} {m : Nat} (hp : ∀ i, i < m → 0 ≤ p i ∧ p i < 256) : (addN s p m).ok := by
  induction m with
  | zero => exact h
  | succ m ih => exact ok_add1 (ih fun i hi => hp i (by omega)) (hp m (by omega)).1 (hp m (by omega)).2
theorem ok_overlay {r : Nat → Int} {h c : Nat} {q : Nat → Int} (hr : (∀ i, 0 ≤ r i) ∧ (∀ i, r i < 256)) (hq : ∀ i, i < c → 0 ≤ q i ∧ q i < 256) : (∀ i, 0 ≤ overlay r h c q i) ∧ (∀ i, overlay r h c q i < 256) := by
  refine ⟨fun i => ?_, fun i => ?_⟩ <;> simp only [overlay] <;> split
  · exact (hq _ (by omega)).1
  · exact hr.1 i
  · exact (hq _ (by omega)).2
  · exact hr.2 i

/-- the bytes of a chunk, as cells -/
def chunk (c : Nat) (q : Nat → Int) : List Value := (List.range c).map fun i => Value.int .u8 (q i)
theorem chunk_len (c : Nat) (q : Nat → Int) : (chunk c q).length = c := by simp [chunk]
theorem chunk_get {c : Nat} {q : Nat → Int} {j : Nat} {v : Value} (h : (chunk c q)[j]? = some v) : j < c ∧ v = .int .u8 (q j) := by
  have hj : j < c := by have := (List.getElem?_eq_some_iff.1 h).1; rwa [chunk_len] at this
  refine ⟨hj, ?_⟩
  simp [chunk, hj] at h
  exact h.symm
theorem chunk_one (c : Nat) (q : Nat → Int) : ∀ v ∈ chunk c q, v.oneCell' = true := by
  intro v hv
  simp only [chunk, List.mem_map] at hv
  obtain ⟨i, _, rfl⟩ := hv
  rfl
theorem copied (g r : Nat → Int) (n : Int) (h c : Nat) (q : Nat → Int) (hc : h + c ≤ 64) :
    ((hcells g r n).toList.take (8 + h) ++ (chunk c q ++ (hcells g r n).toList.drop (8 + h + (chunk c q).length))).toArray = hcells g (overlay r h c q) n := by
  have hl : (hcells g r n).toList.length = 73 := hc_len g r n
  have hk := chunk_len c q
  have get : ∀ i, ((hcells g r n).toList.take (8 + h) ++ (chunk c q ++ (hcells g r n).toList.drop (8 + h + (chunk c q).length))).toArray[i]? = if 8 + h ≤ i ∧ i < 8 + h + c then (chunk c q)[i - (8 + h)]? else (hcells g r n)[i]? := by
    intro i
    rw [hk]
    simp only [List.getElem?_toArray]
    by_cases h1 : i < 8 + h
    · rw [if_neg (by omega), List.getElem?_append_left (by simp [hl]; omega), List.getElem?_take, if_pos h1, Array.getElem?_toList]
    · by_cases h2 : i < 8 + h + c
      · rw [if_pos (by omega), List.getElem?_append_right (by simp [hl]; omega), List.length_take, hl, Nat.min_eq_left (by omega), List.getElem?_append_left (by rw [hk]; omega)]
      · rw [if_neg (by omega), List.getElem?_append_right (by simp [hl]; omega), List.length_take, hl, Nat.min_eq_left (by omega), List.getElem?_append_right (by rw [hk]; omega), hk, List.getElem?_drop, show 8 + h + c + (i - (8 + h) - c) = i by omega, Array.getElem?_toList]
  refine hc_ext ?_ ?_ ?_ ?_
  · simp [hl, hk]; omega
  · intro i hi; rw [get, if_neg (by omega), hc_g _ _ _ i hi]
  · intro i hi
    rw [get]
    simp only [overlay]
    by_cases h1 : h ≤ i ∧ i < h + c
    · rw [if_pos (by omega), if_pos h1, show 8 + i - (8 + h) = i - h by omega]
      simp [chunk, show i - h < c by omega]
    · rw [if_neg (by omega), if_neg h1, hc_r _ _ _ i hi]
  · rw [get, if_neg (by omega), hc_n]
end Go.Proofs.YthmlfglllhmimaaGreatDoor

namespace Go.Proofs.YthmlfglllhmimaaGreatDoor
open Go.RowKit

theorem built27 : (Tryz.prog.built 161 []).getD #[] = hcells (fun _ => 0) (fun _ => 0) 0 := by kernel_rfl
theorem isBuilt27 : (Tryz.prog.built 161 []).isSome = true := by kernel_rfl
theorem wpList_build27 {ops : Array Oper} {rest : List Oper} {o : Oper} {a : Act} {w : World} {Q : Exit → Act → World → Prop} (hg : o.guard = none) (ho : o.op = .build 161 #[])
    (h : wpList Tryz.prog ops Q rest (a.put o.dst (.agg (hcells (fun _ => 0) (fun _ => 0) 0))) w) : wpList Tryz.prog ops Q (o :: rest) a w := by
  have e0 : ((#[] : Array (Nat × Operand)).map fun (i, x) => (i, a.eval x)).toList = [] := by simp
  refine wpList_build hg 161 #[] ho (by rw [e0]; exact isBuilt27) ?_
  rw [e0, built27]
  exact h

set_option maxHeartbeats 400000 in
theorem new_any (w : World) :
    Calls Tryz.prog 93 #[] w fun e w' => e = .returned (.agg HS.new.cells) ∧ Below w.heap.size w w' := by
  have z27 := zero27
  go_enter Tryz.func93, Tryz.ntmps93
  go_wp2_with (first
    | (refine wpList_build27 rfl rfl ?_; simp only [Act.put, List.setIfInBounds_toArray, List.set_cons_succ, List.set_cons_zero])
    | (refine isStore 161 (.tmp 0) (.tmp 1) rfl ?_; refine wpList_store_row rfl 161 (.tmp 0) (.tmp 1) rfl w.heap.size _ rfl rfl 161 _ (heap_alloc_new _ _) (size27' _ _ _) (by simp only [hc_size]) (hc_one _ _ _) ?_))
  refine bodyPost_ret (v := .agg HS.new.cells) (results_cell_row Tryz.results93 _ _ w.heap.size 161 _ (0, 0) _ rfl (setRow_heap _ _ _ _ _ _ (heap_alloc_new _ _)) Tryz.underlying161 rfl (size27' _ _ _)) rfl ⟨rfl, ?_⟩
  exact below_setRow ((Below.refl _ _).alloc (Nat.le_refl _) _) (Nat.le_refl _) _

/-- The digest of what was taken in. -/
def sumD (s : HS) : Nat → Int := digB (stW (padG s.g s.r s.n))

end Go.Proofs.YthmlfglllhmimaaGreatDoor
