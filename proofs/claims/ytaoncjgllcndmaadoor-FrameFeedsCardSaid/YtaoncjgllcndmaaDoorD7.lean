import Derived.Test.YtaoncjgllcndmaaDoorD8
import Derived.Test.YtaoncjgllcndmaaDoorC2
import Derived.Test.YtaoncjgllcndmaaDoorK8
namespace Go.Proofs.YtaoncjgllcndmaaDoor.Frm
open Go.RowKit Gf8 Aes By8 Cel
/- A Judged's cells; the reference's ended. -/

/-- A Judged. -/
def jC (hd : Bool) (rd ep lf : Int) (cv : Value) (pl er : Int) : Array Value := #[.bool hd, .int .i64 rd, .int .i64 ep, .int .i64 lf, cv, .int .i64 pl, .int .i64 er]
theorem sizeJ (hd : Bool) (rd ep lf : Int) (cv : Value) (pl er : Int) : (Tryd.prog.info? 66).map (·.size) = some (jC hd rd ep lf cv pl er).size := by
  show _ = some 7
  kernel_rfl
theorem jC_one (hd : Bool) (rd ep lf : Int) {cv : Value} (pl er : Int) (h : cv.oneCell' = true) : (jC hd rd ep lf cv pl er).all (·.oneCell') = true := by
  have e : (jC hd rd ep lf cv pl er).all (·.oneCell') = (true && (true && (true && (true && (cv.oneCell' && (true && (true && true))))))) := by
    simp only [jC, ← Array.all_toList, List.all_cons, List.all_nil]
    rfl
  rw [e, h]
  rfl
theorem slice_one (a : Option Addr) (n c : Nat) : (Value.slice a n c).oneCell' = true := rfl
section
variable {P : Program} {o : Oper} {a : Act} {w : World}
/-- One cell stored into a row. -/
theorem execStV {ty : TypeId} {x y : Operand} {g k : Nat} {v : Value} {c c' : Array Value} {t : TypeId} (ho : o.op = .store ty x y) (hx : a.eval x = .pointer (some ⟨g, k, none⟩)) (hy : a.eval y = v) (hg : w.heap[g]? = some (.cells c t)) (hk : k < c.size) (hi : (P.info? ty).map (·.size) = some 1) (h1 : v.oneCell' = true) (hc : c.setIfInBounds k v = c') :
    (execOp a.eval o).run P w = .ok .skip (w.setRow g c') := by
  have hcs : v.cells = #[v] := by cases v <;> first | rfl | cases h1
  have this := run_storeCells_at P g k t [v] 0 c w hg (by simp; omega) (fun u hu => by rw [List.mem_singleton.1 hu]; exact h1)
  have e : (c.toList.take k ++ [v] ++ c.toList.drop (k + 1)).toArray = c' := by
    rw [← hc]
    apply Array.ext_getElem?
    intro i
    rw [Array.getElem?_setIfInBounds]
    have lk : (c.toList.take k).length = k := by simp; omega
    simp only [List.getElem?_toArray, List.append_assoc]
    rcases Nat.lt_trichotomy i k with h | h | h
    · rw [List.getElem?_append_left (by omega), List.getElem?_take, if_pos h, if_neg (by omega), Array.getElem?_toList]
    · subst h
      rw [List.getElem?_append_right (by omega), lk, Nat.sub_self, if_pos rfl, if_pos hk]
      rfl
    · rw [List.getElem?_append_right (by omega), lk, List.getElem?_append_right (by simp; omega), List.getElem?_drop, if_neg (by omega), Array.getElem?_toList]
      congr 1
      simp
      omega
  simp only [Nat.add_zero, List.length_singleton] at this
  rw [e] at this
  unfold execOp
  cases hq : P.info? ty with
  | none => simp [hq] at hi
  | some i =>
    have hs : i.size = 1 := by simp [hq] at hi; omega
    simp only [ho, hx, hy, Instr.storeAt, Instr.sureAddr, Sem.run_bind, Sem.run_pure, Result.andThen_ok]
    simp [storeVar, sizeOf, typeInfo, hq, hcs, hs, this]
end
/-- Are n bytes the same? -/
def eqN (p q : Nat → Nat) (n : Nat) : Bool := (List.range n).all fun j => p j == q j
theorem eqN_iff (p q : Nat → Nat) (n : Nat) : eqN p q n = true ↔ ∀ j, j < n → p j = q j := by
  unfold eqN
  simp [List.all_eq_true]
theorem strN_toList_inj {p q : Nat → Nat} {n m : Nat} (e : (strN p n).toList = (strN q m).toList) : strN p n = strN q m := by
  unfold strN at e ⊢
  rw [Go.Lib.strOfNums_toList, Go.Lib.strOfNums_toList, ← strOfNums_toBytes', ← strOfNums_toBytes'] at e
  rw [str_of_list e]
theorem strN_beq {p q : Nat → Nat} {n : Nat} (hp : ∀ j, j < n → p j < 256) (hq : ∀ j, j < n → q j < 256) : ((strN p n).toList == (strN q n).toList) = eqN p q n := by
  rw [Bool.eq_iff_iff, beq_iff_eq, eqN_iff]
  exact ⟨fun e => strN_inj hp hq (strN_toList_inj e), fun e => by rw [strN_congr e]⟩
theorem strN_len {p q : Nat → Nat} {n m : Nat} (h : n ≠ m) : ((strN p n).toList == (strN q m).toList) = false := by
  rw [Bool.eq_false_iff, ne_eq, beq_iff_eq]
  intro e
  have := congrArg List.length e
  unfold strN at this
  rw [Go.Lib.strOfNums_toList, Go.Lib.strOfNums_toList, ← strOfNums_toBytes', ← strOfNums_toBytes', strOfNums_data, strOfNums_data] at this
  simp [numL] at this
  omega
/-- Texts compared. -/
theorem execNeqN {o : Oper} {a : Act} {w : World} {x y : Operand} {p q : Nat → Nat} {n : Nat} (ho : o.op = .binOp .neq 9 x y 9) (hx : a.eval x = .string (strN p n)) (hy : a.eval y = .string (strN q n)) (hp : ∀ j, j < n → p j < 256) (hq : ∀ j, j < n → q j < 256) : (execOp a.eval o).run Tryd.prog w = .ok (.value (.bool (!eqN p q n))) w := by
  unfold execOp
  simp only [ho, hx, hy]
  rw [← strN_beq hp hq]
  simp [go_sem]
/-- What stands: the Judged in block J, the answer in block R. -/
structure JS (A R J : Nat) (hd : Bool) (rd ep lf : Int) (cv : Value) (pl er : Int) (V W : World) : Prop where
  r : ∃ c, c.size = 7 ∧ W.heap[R]? = some (.cells c 66)
  j : W.heap[J]? = some (.cells (jC hd rd ep lf cv pl er) 66)
  bel : Below A V W
  ne : R ≠ J
  ar : A ≤ R
  aj : A ≤ J
  one : cv.oneCell' = true
theorem JS.set {A R J : Nat} {hd : Bool} {rd ep lf : Int} {cv : Value} {pl er : Int} {V W : World} (h : JS A R J hd rd ep lf cv pl er V W) (hd' : Bool) (rd' ep' lf' : Int) {cv' : Value} (pl' er' : Int) (h1 : cv'.oneCell' = true) : JS A R J hd' rd' ep' lf' cv' pl' er' V (W.setRow J (jC hd' rd' ep' lf' cv' pl' er')) := by
  obtain ⟨c, hc, hr⟩ := h.r
  exact ⟨⟨c, hc, by rw [setRow_other _ _ _ _ h.ne]; exact hr⟩, setRow_heap _ _ _ _ _ _ h.j, below4 h.bel h.aj _, h.ne, h.ar, h.aj, h1⟩
theorem JS.end {A R J : Nat} {hd : Bool} {rd ep lf : Int} {cv : Value} {pl er : Int} {V W : World} (h : JS A R J hd rd ep lf cv pl er V W) : (W.setRow R (jC hd rd ep lf cv pl er)).heap[R]? = some (.cells (jC hd rd ep lf cv pl er) 66) ∧ Below A V (W.setRow R (jC hd rd ep lf cv pl er)) := by
  obtain ⟨c, hc, hr⟩ := h.r
  exact ⟨setRow_heap _ _ _ _ _ _ hr, below4 h.bel h.ar _⟩
theorem zeroJ : ∀ w, (zeroValue 66).run Tryd.prog w = .ok (.agg (jC false 0 0 0 (.slice none 0 0) 0 0)) w := by
  intro w
  simp [go_sem, jC]

/-- What each operation of the foot's test yields. -/
def enV (v : Value) (t : Nat) (vf r : Value) (p : Nat → Nat) (j : Nat) : Value :=
  match j with
  | 0 => v | 1 => .int .i64 t | 2 => .int .i64 t | 3 => .int .i64 (t + 4 : Nat) | 4 => vf | 5 => .string (strN (fun j => p (t + j)) 4) | 6 => r | 7 => .string (strN (footF p t) 4)
  | _ => .bool (!eqN (fun j => p (t + j)) (footF p t) 4)
theorem JS.on {A R J : Nat} {hd : Bool} {rd ep lf : Int} {cv : Value} {pl er : Int} {V W W' : World} (h : JS A R J hd rd ep lf cv pl er V W) (hb : Below W.heap.size W W') : JS A R J hd rd ep lf cv pl er V W' := by
  obtain ⟨c, hc, hr⟩ := h.r
  have lr := (Array.getElem?_eq_some_iff.1 hr).1
  have lj := (Array.getElem?_eq_some_iff.1 h.j).1
  exact ⟨⟨c, hc, by rw [hb.block _ lr]; exact hr⟩, by rw [hb.block _ lj]; exact h.j, h.bel.trans (hb.mono (by have := h.aj; omega)), h.ne, h.ar, h.aj, h.one⟩
set_option maxRecDepth 20000 in
set_option maxHeartbeats 1000000 in
theorem ended_any (p : Nat → Nat) (len n : Nat) (v : Value) (hd : Bool) (rd ep lf : Int) (cv : Value) (V : World) (hv : SliceN V v len p) (hl : len ≤ 140737488351232) (hn : n ≤ 256) (hat : cellAt n ≤ len) (h1 : cv.oneCell' = true) :
    Calls Tryd.prog 47 #[v, .int .i64 (cellAt n : Nat), .agg (jC hd rd ep lf cv 0 0)] V fun e w' => e = .returned (.agg (jC hd rd ep lf cv (tailE p len n n).1 (tailE p len n n).2)) ∧ Below V.heap.size V w' := by
  have HV : Hid (SliceN V v len p) := hv
  obtain ⟨ao, cap, rfl, hc1, hc2, hc3⟩ := id hv.shape
  obtain ⟨t, ht⟩ : ∃ t, cellAt n = t := ⟨_, rfl⟩
  rw [ht]
  have lt : (t : Int) ≤ 82456 := by unfold cellAt at ht; omega
  have ll : (len : Int) ≤ 140737488351232 := by omega
  obtain ⟨E, hE⟩ : ∃ E, tailE p len n n = E := ⟨_, rfl⟩
  rw [hE]
  unfold tailE at hE
  rw [if_neg (by omega), ht] at hE
  have z := zeroJ
  have js : JS V.heap.size (V.heap.size + 1) V.heap.size hd rd ep lf cv 0 0 V ((V.alloc (.cells (jC hd rd ep lf cv 0 0) 66)).alloc (.cells (jC false 0 0 0 (.slice none 0 0) 0 0) 66)) :=
    ⟨⟨_, rfl, (heap2c V _ _).2⟩, (heap2c V _ _).1, below2c V _ _, by omega, by omega, Nat.le_refl _, h1⟩
  have HJ : Hid (_) := js
  have ONE : Hid (cv.oneCell' = true) := h1
  clear hv js h1 hc3
  by_cases hs : len < t + 4
  · rw [if_pos hs] at hE
    subst hE
    have i1 : (len : Int) < t + 4 := by omega
    clear hs ht
    go_enter Tryd.func47, Tryd.ntmps47
    have j1 := HJ.out.set hd rd ep lf len 0 ONE.out
    have j2 := j1.set hd rd ep lf len 67 ONE.out
    have J1 : Hid (_) := j1
    have J2 : Hid (_) := j2
    obtain ⟨c0, s0, r0⟩ := j2.r
    have R0 : Hid (c0.size = 7 ∧ _) := ⟨s0, r0⟩
    clear j1 j2 s0 r0
    go_wp2_with (first
      | (refine atStore 3 (.tmp 15) (.tmp 14) rfl ?_; go_must (refine wpList_exS rfl (execStV (c' := jC hd rd ep lf cv len 0) rfl rfl rfl HJ.out.j (by show 5 < 7; decide) (by kernel_rfl) rfl rfl) ?_))
      | (refine atStore 3 (.tmp 16) (.const (.int .i64 67)) rfl ?_; go_must (refine wpList_exS rfl (execStV (c' := jC hd rd ep lf cv len 67) rfl rfl rfl J1.out.j (by show 6 < 7; decide) (by kernel_rfl) rfl rfl) ?_))
      | (refine atLoad 66 (.tmp 5) rfl ?_; go_must (refine wpList_load_row rfl 66 (.tmp 5) rfl V.heap.size rfl 66 _ (0, 0) _ J2.out.j Tryd.underlying66 rfl (sizeJ _ _ _ _ _ _ _) ?_; simp only [Act.put, List.setIfInBounds_toArray, List.set_cons_succ, List.set_cons_zero]))
      | (refine atStore 66 (.tmp 6) (.tmp 17) rfl ?_; go_must (refine wpList_store_row rfl 66 (.tmp 6) (.tmp 17) rfl (V.heap.size + 1) _ rfl rfl 66 _ R0.out.2 (sizeJ _ _ _ _ _ _ _) R0.out.1 (jC_one _ _ _ _ _ _ ONE.out) ?_)))
    refine bodyPost_ret (v := .agg (jC hd rd ep lf cv len 67)) (results_cell_row Tryd.results47 _ _ (V.heap.size + 1) 66 _ (0, 0) _ rfl J2.out.end.1 Tryd.underlying66 rfl (sizeJ _ _ _ _ _ _ _)) rfl ⟨rfl, J2.out.end.2⟩
  · rw [if_neg hs] at hE
    have i1 : ¬ (len : Int) < t + 4 := by omega
    have p1 := HV.out.sub 0 t (Nat.zero_le _) (by omega)
    have p2 := HV.out.sub t (t + 4) (by omega) (by omega)
    have e1 : sliced ao 0 t cap 1 = .slice ao t cap := by
      unfold sliced
      by_cases c0 : cap = 0
      · rw [if_pos c0, Nat.sub_zero, Nat.sub_zero]
      · rw [if_neg c0, Nat.sub_zero, Nat.sub_zero]
        cases ao <;> simp [Addr.add]
    have s1 := fun W => slice_h ao len cap t (by omega) W
    have s2 := fun W => slice_lh ao len cap t (t + 4) (by omega) (by omega) W
    rw [e1] at p1 s1
    obtain ⟨vf, hvf⟩ : ∃ vf, sliced ao t (t + 4) cap 1 = vf := ⟨_, rfl⟩
    rw [hvf] at p2 s2
    rw [show t + 4 - t = 4 by omega] at p2
    rw [Nat.sub_zero] at p1
    have P1 : Hid (SliceN V (.slice ao t cap) t p) := sliceN_cg p1 fun j _ => by rw [Nat.zero_add]
    have P2 : Hid (SliceN V vf 4 fun j => p (t + j)) := p2
    have s2' : ∀ W, (Instr.sliceAt 30 (.slice ao len cap) (some (.int .i64 (t : Int))) (some (.int .i64 ((t : Int) + 4))) none).run Tryd.prog W = .ok vf W := fun W => s2 W
    have HT : Hid (t ≤ 140737488351232) := by show t ≤ _; omega
    clear hs ht p1 p2 e1 s2 hvf hat
    go_enter Tryd.func47, Tryd.ntmps47
    go_wp2_with (first
      | (go_at_call 28; refine (foot_any p t _ _ (P1.out.on HJ.out.bel) HT.out).mono ?_; rintro e w1 ⟨r, rfl, own, hb1⟩))
    have j0 : JS V.heap.size (V.heap.size + 1) V.heap.size hd rd ep lf cv 0 0 V w1 := HJ.out.on hb1
    have HW : Hid (_ ∧ SliceN w1 vf 4 (fun j => p (t + j)) ∧ SliceN w1 r 4 (footF p t)) := ⟨j0, (P2.out.on HJ.out.bel).on hb1, own_slice own fun j _ => footF_lt _ _ _⟩
    clear j0 own hb1 HJ
    have HB : Hid (∀ j, j < 4 → p (t + j) < 256) := fun j hj => HV.out.bytes _ (by have := HT.out; omega)
    refine wp_region_det 45 [(0, 22), (1, 23), (2, 24), (3, 25), (4, 26), (5, 27), (6, 28), (7, 29), (8, 30)] (enV (.slice ao len cap) t vf r p) (fun _ W => Below w1.heap.size w1 W) (by kernel_rfl) (by kernel_rfl) rfl (by kernel_rfl) (by decide) (by decide) ?_ ?_ ?_
    · exact (Below.refl _ _).drew
    · intro j hj l a W hl hf hdep hl2 hcl _ hT
      have lt' := HT.out
      match j, hj with
      | 0, _ => exact stepV rfl rfl (execMvB rfl (hf 0 (by decide))) ⟨⟨_, rfl, rfl⟩, hT⟩
      | 1, _ => exact stepV rfl rfl (execMvB rfl (hf 1 (by decide))) ⟨⟨_, rfl, rfl⟩, hT⟩
      | 2, _ => exact stepV rfl rfl (execMvB rfl (hf 1 (by decide))) ⟨⟨_, rfl, rfl⟩, hT⟩
      | 3, _ => exact stepV rfl rfl (execAddI (q := 4) rfl (hdep _ rfl 2 rfl _ rfl _ rfl) rfl (by omega)) ⟨⟨_, rfl, rfl⟩, hT⟩
      | 4, _ => exact stepV rfl rfl (execSlLH rfl (hdep _ rfl 0 rfl _ rfl _ rfl) (hdep _ rfl 1 rfl _ rfl _ rfl) (hdep _ rfl 3 rfl _ rfl _ rfl) (s2' W)) ⟨⟨_, rfl, rfl⟩, hT⟩
      | 5, _ => exact stepV rfl rfl (execStr rfl (hdep _ rfl 4 rfl _ rfl _ rfl) (HW.out.2.1.on hT)) ⟨⟨_, rfl, rfl⟩, hT⟩
      | 6, _ => exact stepV rfl rfl (execMvB rfl (hf 7 (by decide))) ⟨⟨_, rfl, rfl⟩, hT⟩
      | 7, _ => exact stepV rfl rfl (execStr rfl (hdep _ rfl 6 rfl _ rfl _ rfl) (HW.out.2.2.on hT)) ⟨⟨_, rfl, rfl⟩, hT⟩
      | 8, _ => exact stepV rfl rfl (execNeqN rfl (hdep _ rfl 5 rfl _ rfl _ rfl) (hdep _ rfl 7 rfl _ rfl _ rfl) HB.out (fun j _ => footF_lt _ _ _)) ⟨⟨_, rfl, rfl⟩, hT⟩
      | n + 9, h => exact absurd h (by simp)
    · intro l W hall hT
      have j0 := HW.out.1.on hT
      clear hall hT HW s1 s2' HB
      simp only [putP, enV, Act.put, List.setIfInBounds_toArray, List.set_cons_succ, List.set_cons_zero]
      have e4 := eqN_iff (fun j => p (t + j)) (footF p t) 4
      cases hq : eqN (fun j => p (t + j)) (footF p t) 4 with
      | false =>
        rw [if_neg (fun g => by rw [hq] at e4; exact absurd (e4.2 g) (by simp))] at hE
        subst hE
        have j1 := j0.set hd rd ep lf t 0 ONE.out
        have j2 := j1.set hd rd ep lf t 65 ONE.out
        have J0 : Hid (_) := j0
        have J1 : Hid (_) := j1
        have J2 : Hid (_) := j2
        obtain ⟨c0, s0, r0⟩ := j2.r
        have R0 : Hid (c0.size = 7 ∧ _) := ⟨s0, r0⟩
        clear j0 j1 j2 s0 r0 e4 hq
        go_wp2_with (first
          | (refine atStore 3 (.tmp 32) (.tmp 31) rfl ?_; go_must (refine wpList_exS rfl (execStV (c' := jC hd rd ep lf cv t 0) rfl rfl rfl J0.out.j (by show 5 < 7; decide) (by kernel_rfl) rfl rfl) ?_))
          | (refine atStore 3 (.tmp 33) (.const (.int .i64 65)) rfl ?_; go_must (refine wpList_exS rfl (execStV (c' := jC hd rd ep lf cv t 65) rfl rfl rfl J1.out.j (by show 6 < 7; decide) (by kernel_rfl) rfl rfl) ?_))
          | (refine atLoad 66 (.tmp 5) rfl ?_; go_must (refine wpList_load_row rfl 66 (.tmp 5) rfl V.heap.size rfl 66 _ (0, 0) _ J2.out.j Tryd.underlying66 rfl (sizeJ _ _ _ _ _ _ _) ?_; simp only [Act.put, List.setIfInBounds_toArray, List.set_cons_succ, List.set_cons_zero]))
          | (refine atStore 66 (.tmp 6) (.tmp 34) rfl ?_; go_must (refine wpList_store_row rfl 66 (.tmp 6) (.tmp 34) rfl (V.heap.size + 1) _ rfl rfl 66 _ R0.out.2 (sizeJ _ _ _ _ _ _ _) R0.out.1 (jC_one _ _ _ _ _ _ ONE.out) ?_)))
        refine bodyPost_ret (v := .agg (jC hd rd ep lf cv t 65)) (results_cell_row Tryd.results47 _ _ (V.heap.size + 1) 66 _ (0, 0) _ rfl J2.out.end.1 Tryd.underlying66 rfl (sizeJ _ _ _ _ _ _ _)) rfl ⟨rfl, J2.out.end.2⟩
      | true =>
        rw [if_pos (e4.1 hq)] at hE
        clear e4 hq
        by_cases hm : t + 4 < len
        · rw [if_pos hm] at hE
          subst hE
          have i2 : (len : Int) > t + 4 := by omega
          have j1 := j0.set hd rd ep lf (t + 4 : Nat) 0 ONE.out
          have j2 := j1.set hd rd ep lf (t + 4 : Nat) 66 ONE.out
          have J0 : Hid (_) := j0
          have J1 : Hid (_) := j1
          have J2 : Hid (_) := j2
          obtain ⟨c0, s0, r0⟩ := j2.r
          have R0 : Hid (c0.size = 7 ∧ _) := ⟨s0, r0⟩
          clear j0 j1 j2 s0 r0 hm
          go_wp2_with (first
            | (refine atStore 3 (.tmp 42) (.tmp 41) rfl ?_; go_must (refine wpList_exS rfl (execStV (c' := jC hd rd ep lf cv (t + 4 : Nat) 0) rfl rfl rfl J0.out.j (by show 5 < 7; decide) (by kernel_rfl) rfl rfl) ?_))
            | (refine atStore 3 (.tmp 43) (.const (.int .i64 66)) rfl ?_; go_must (refine wpList_exS rfl (execStV (c' := jC hd rd ep lf cv (t + 4 : Nat) 66) rfl rfl rfl J1.out.j (by show 6 < 7; decide) (by kernel_rfl) rfl rfl) ?_))
            | (refine atLoad 66 (.tmp 5) rfl ?_; go_must (refine wpList_load_row rfl 66 (.tmp 5) rfl V.heap.size rfl 66 _ (0, 0) _ J2.out.j Tryd.underlying66 rfl (sizeJ _ _ _ _ _ _ _) ?_; simp only [Act.put, List.setIfInBounds_toArray, List.set_cons_succ, List.set_cons_zero]))
            | (refine atStore 66 (.tmp 6) (.tmp 44) rfl ?_; go_must (refine wpList_store_row rfl 66 (.tmp 6) (.tmp 44) rfl (V.heap.size + 1) _ rfl rfl 66 _ R0.out.2 (sizeJ _ _ _ _ _ _ _) R0.out.1 (jC_one _ _ _ _ _ _ ONE.out) ?_)))
          refine bodyPost_ret (v := .agg (jC hd rd ep lf cv (t + 4 : Nat) 66)) (results_cell_row Tryd.results47 _ _ (V.heap.size + 1) 66 _ (0, 0) _ rfl J2.out.end.1 Tryd.underlying66 rfl (sizeJ _ _ _ _ _ _ _)) rfl ⟨rfl, J2.out.end.2⟩
        · rw [if_neg hm] at hE
          subst hE
          have i2 : ¬ (len : Int) > t + 4 := by omega
          have J2 : Hid (_) := j0
          obtain ⟨c0, s0, r0⟩ := j0.r
          have R0 : Hid (c0.size = 7 ∧ _) := ⟨s0, r0⟩
          clear j0 s0 r0 hm
          go_wp2_with (first
            | (refine atLoad 66 (.tmp 5) rfl ?_; go_must (refine wpList_load_row rfl 66 (.tmp 5) rfl V.heap.size rfl 66 _ (0, 0) _ J2.out.j Tryd.underlying66 rfl (sizeJ _ _ _ _ _ _ _) ?_; simp only [Act.put, List.setIfInBounds_toArray, List.set_cons_succ, List.set_cons_zero]))
            | (refine atStore 66 (.tmp 6) (.tmp 44) rfl ?_; go_must (refine wpList_store_row rfl 66 (.tmp 6) (.tmp 44) rfl (V.heap.size + 1) _ rfl rfl 66 _ R0.out.2 (sizeJ _ _ _ _ _ _ _) R0.out.1 (jC_one _ _ _ _ _ _ ONE.out) ?_)))
          refine bodyPost_ret (v := .agg (jC hd rd ep lf cv 0 0)) (results_cell_row Tryd.results47 _ _ (V.heap.size + 1) 66 _ (0, 0) _ rfl J2.out.end.1 Tryd.underlying66 rfl (sizeJ _ _ _ _ _ _ _)) rfl ⟨rfl, J2.out.end.2⟩
end Go.Proofs.YtaoncjgllcndmaaDoor.Frm
