import Derived.Test.YthmlfglllhmimaaGreatDoorD8
import Derived.Test.YthmlfglllhmimaaGreatDoorX7b
import Derived.Test.YthmlfglllhmimaaGreatDoorK7
import Derived.Test.YthmlfglllhmimaaGreatDoorD2a
import Derived.Test.YthmlfglllhmimaaGreatDoorY3
import Derived.Test.YthmlfglllhmimaaGreatDoorY6a
import Derived.Deep.QuietTactic
namespace Go.Proofs.YthmlfglllhmimaaGreatDoor.Frm
open Go.RowKit Gf8 Aes By8 Cel
/- A Judged's cells; the reference's ended. -/

/-- A Judged. -/
def jC (hd : Bool) (rd ep lf : Int) (cv : Value) (pl er : Int) : Array Value := #[.bool hd, .int .i64 rd, .int .i64 ep, .int .i64 lf, cv, .int .i64 pl, .int .i64 er]
theorem sizeJ (hd : Bool) (rd ep lf : Int) (cv : Value) (pl er : Int) : (Tryz.prog.info? 85).map (·.size) = some (jC hd rd ep lf cv pl er).size := by
  show _ = some 7
  kernel_rfl
theorem jC_one (hd : Bool) (rd ep lf : Int) {cv : Value} (pl er : Int) (h : cv.oneCell' = true) : (jC hd rd ep lf cv pl er).all (·.oneCell') = true := by
  have e : (jC hd rd ep lf cv pl er).all (·.oneCell') = (true && (true && (true && (true && (cv.oneCell' && (true && (true && true))))))) := by
    simp only [jC, ← Array.all_toList, List.all_cons, List.all_nil]
    rfl
  rw [e, h]
  rfl
section
variable {P : Program} {o : Oper} {a : Act} {w : World}
/-- One cell stored into a row. -/
theorem execStV {ty : TypeId} {x y : Operand} {g k : Nat} {v : Value} {c c' : Array Value} {t : TypeId} (ho : o.op = .store ty x y) (hx : a.eval x = .pointer (some ⟨g, k, none⟩)) (hy : a.eval y = v) (hg : w.heap[g]? = some (.cells c t)) (hk : k < c.size) (hi : (P.info? ty).map (·.size) = some 1) (h1 : v.oneCell' = true) (hc : c.setIfInBounds k v = c') :
    (execOp a.eval o).run P w = .ok .skip (w.setRow g c') := by
  have hcs : v.cells = #[v] := by cases v <;> first | rfl | cases h1
  have this := run_storeCells_at P g k t [v] 0 c w hg (by simp; omega) (fun u hu => by rw [List.mem_singleton.1 hu]; exact h1)
  have e : (c.toList.take k ++ [v] ++ c.toList.drop (k + 1)).toArray = c' := by
    rw [← hc]
    apply Array.ext_getElem?
    intro i
    rw [Array.getElem?_setIfInBounds]
    have lk : (c.toList.take k).length = k := by simp; omega
    simp only [List.getElem?_toArray, List.append_assoc]
    rcases Nat.lt_trichotomy i k with h | h | h
    · rw [List.getElem?_append_left (by omega), List.getElem?_take, if_pos h, if_neg (by omega), Array.getElem?_toList]
    · subst h
      rw [List.getElem?_append_right (by omega), lk, Nat.sub_self, if_pos rfl, if_pos hk]
      rfl
    · rw [List.getElem?_append_right (by omega), lk, List.getElem?_append_right (by simp; omega), List.getElem?_drop, if_neg (by omega), Array.getElem?_toList]
      congr 1
      simp
      omega
  simp only [Nat.add_zero, List.length_singleton] at this
  rw [e] at this
  unfold execOp
  cases hq : P.info? ty with
  | none => simp [hq] at hi
  | some i =>
    have hs : i.size = 1 := by simp [hq] at hi; omega
    simp only [ho, hx, hy, Instr.storeAt, Instr.sureAddr, Sem.run_bind, Sem.run_pure, Result.andThen_ok]
    simp [storeVar, sizeOf, typeInfo, hq, hcs, hs, this]
end
/-- Are n bytes the same? -/
def eqN (p q : Nat → Nat) (n : Nat) : Bool := (List.range n).all fun j => p j == q j
theorem eqN_iff (p q : Nat → Nat) (n : Nat) : eqN p q n = true ↔ ∀ j, j < n → p j = q j := by
  unfold eqN
  simp [List.all_eq_true]
theorem strN_toList_inj {p q : Nat → Nat} {n m : Nat} (e : (strN p n).toList = (strN q m).toList) : strN p n = strN q m := by
  unfold strN at e ⊢
  rw [Go.Lib.strOfNums_toList, Go.Lib.strOfNums_toList, ← strOfNums_toBytes', ← strOfNums_toBytes'] at e
  rw [str_of_list e]
theorem strN_beq {p q : Nat → Nat} {n : Nat} (hp : ∀ j, j < n → p j < 256) (hq : ∀ j, j < n → q j < 256) : ((strN p n).toList == (strN q n).toList) = eqN p q n := by
  rw [Bool.eq_iff_iff, beq_iff_eq, eqN_iff]
  exact ⟨fun e => strN_inj hp hq (strN_toList_inj e), fun e => by rw [strN_congr e]⟩
/-- Texts compared. -/
theorem execNeqN {o : Oper} {a : Act} {w : World} {x y : Operand} {p q : Nat → Nat} {n : Nat} (ho : o.op = .binOp .neq 9 x y 9) (hx : a.eval x = .string (strN p n)) (hy : a.eval y = .string (strN q n)) (hp : ∀ j, j < n → p j < 256) (hq : ∀ j, j < n → q j < 256) : (execOp a.eval o).run Tryz.prog w = .ok (.value (.bool (!eqN p q n))) w := by
  unfold execOp
  simp only [ho, hx, hy]
  rw [← strN_beq hp hq]
  simp [go_sem]
/-- What stands: the Judged in block J, the answer in block R. -/
structure JS (A R J : Nat) (hd : Bool) (rd ep lf : Int) (cv : Value) (pl er : Int) (V W : World) : Prop where
  r : ∃ c, c.size = 7 ∧ W.heap[R]? = some (.cells c 85)
  j : W.heap[J]? = some (.cells (jC hd rd ep lf cv pl er) 85)
  bel : Below A V W
  ne : R ≠ J
  ar : A ≤ R
  aj : A ≤ J
  one : cv.oneCell' = true
theorem JS.set {A R J : Nat} {hd : Bool} {rd ep lf : Int} {cv : Value} {pl er : Int} {V W : World} (h : JS A R J hd rd ep lf cv pl er V W) (hd' : Bool) (rd' ep' lf' : Int) {cv' : Value} (pl' er' : Int) (h1 : cv'.oneCell' = true) : JS A R J hd' rd' ep' lf' cv' pl' er' V (W.setRow J (jC hd' rd' ep' lf' cv' pl' er')) := by
  obtain ⟨c, hc, hr⟩ := h.r
  exact ⟨⟨c, hc, by rw [setRow_other _ _ _ _ h.ne]; exact hr⟩, setRow_heap _ _ _ _ _ _ h.j, below4 h.bel h.aj _, h.ne, h.ar, h.aj, h1⟩
theorem JS.end {A R J : Nat} {hd : Bool} {rd ep lf : Int} {cv : Value} {pl er : Int} {V W : World} (h : JS A R J hd rd ep lf cv pl er V W) : (W.setRow R (jC hd rd ep lf cv pl er)).heap[R]? = some (.cells (jC hd rd ep lf cv pl er) 85) ∧ Below A V (W.setRow R (jC hd rd ep lf cv pl er)) := by
  obtain ⟨c, hc, hr⟩ := h.r
  exact ⟨setRow_heap _ _ _ _ _ _ hr, below4 h.bel h.ar _⟩
theorem zeroJ : ∀ w, (zeroValue 85).run Tryz.prog w = .ok (.agg (jC false 0 0 0 (.slice none 0 0) 0 0)) w := by
  intro w
  simp [go_sem, jC]

/-- What each operation of the foot's test yields. -/
def enV (v : Value) (t : Nat) (vf r : Value) (p : Nat → Nat) (j : Nat) : Value :=
  match j with
  | 0 => v | 1 => .int .i64 t | 2 => .int .i64 t | 3 => .int .i64 (t + 4 : Nat) | 4 => vf | 5 => .string (strN (fun j => p (t + j)) 4) | 6 => r | 7 => .string (strN (footF p t) 4)
  | _ => .bool (!eqN (fun j => p (t + j)) (footF p t) 4)
theorem JS.on {A R J : Nat} {hd : Bool} {rd ep lf : Int} {cv : Value} {pl er : Int} {V W W' : World} (h : JS A R J hd rd ep lf cv pl er V W) (hb : Below W.heap.size W W') : JS A R J hd rd ep lf cv pl er V W' := by
  obtain ⟨c, hc, hr⟩ := h.r
  have lr := (Array.getElem?_eq_some_iff.1 hr).1
  have lj := (Array.getElem?_eq_some_iff.1 h.j).1
  exact ⟨⟨c, hc, by rw [hb.block _ lr]; exact hr⟩, by rw [hb.block _ lj]; exact h.j, h.bel.trans (hb.mono (by have := h.aj; omega)), h.ne, h.ar, h.aj, h.one⟩
set_option maxRecDepth 20000 in
set_option maxHeartbeats 1000000 in
theorem ended_any (p : Nat → Nat) (len n : Nat) (v : Value) (hd : Bool) (rd ep lf : Int) (cv : Value) (V : World) (hv : SliceN V v len p) (hl : len ≤ 140737488351232) (hn : n ≤ 256) (hat : cellAt n ≤ len) (h1 : cv.oneCell' = true) :
    Calls Tryz.prog 50 #[v, .int .i64 (cellAt n : Nat), .agg (jC hd rd ep lf cv 0 0)] V fun e w' => e = .returned (.agg (jC hd rd ep lf cv (tailE p len n n).1 (tailE p len n n).2)) ∧ Below V.heap.size V w' := by
  have HV : Hid (SliceN V v len p) := hv
  obtain ⟨ao, cap, rfl, hc1, hc2, hc3⟩ := id hv.shape
  obtain ⟨t, ht⟩ : ∃ t, cellAt n = t := ⟨_, rfl⟩
  rw [ht]
  have lt : (t : Int) ≤ 82456 := by unfold cellAt at ht; omega
  have ll : (len : Int) ≤ 140737488351232 := by omega
  obtain ⟨E, hE⟩ : ∃ E, tailE p len n n = E := ⟨_, rfl⟩
  rw [hE]
  unfold tailE at hE
  rw [if_neg (by omega), ht] at hE
  have z := zeroJ
  have js : JS V.heap.size (V.heap.size + 1) V.heap.size hd rd ep lf cv 0 0 V ((V.alloc (.cells (jC hd rd ep lf cv 0 0) 85)).alloc (.cells (jC false 0 0 0 (.slice none 0 0) 0 0) 85)) :=
    ⟨⟨_, rfl, (heap2c V _ _).2⟩, (heap2c V _ _).1, below2c V _ _, by omega, by omega, Nat.le_refl _, h1⟩
  have HJ : Hid (_) := js
  have ONE : Hid (cv.oneCell' = true) := h1
  clear hv js h1 hc3
  by_cases hs : len < t + 4
  · rw [if_pos hs] at hE
    subst hE
    have i1 : (len : Int) < t + 4 := by omega
    clear hs ht
    go_enter Tryz.func50, Tryz.ntmps50
    have j1 := HJ.out.set hd rd ep lf len 0 ONE.out
    have j2 := j1.set hd rd ep lf len 67 ONE.out
    have J1 : Hid (_) := j1
    have J2 : Hid (_) := j2
    obtain ⟨c0, s0, r0⟩ := j2.r
    have R0 : Hid (c0.size = 7 ∧ _) := ⟨s0, r0⟩
    clear j1 j2 s0 r0
    go_wp2_with (first
      | (refine atStore 3 (.tmp 15) (.tmp 14) rfl ?_; go_must (refine wpList_exS rfl (execStV (c' := jC hd rd ep lf cv len 0) rfl rfl rfl HJ.out.j (by show 5 < 7; decide) (by kernel_rfl) rfl rfl) ?_))
      | (refine atStore 3 (.tmp 16) (.const (.int .i64 67)) rfl ?_; go_must (refine wpList_exS rfl (execStV (c' := jC hd rd ep lf cv len 67) rfl rfl rfl J1.out.j (by show 6 < 7; decide) (by kernel_rfl) rfl rfl) ?_))
      | (refine atLoad 85 (.tmp 5) rfl ?_; go_must (refine wpList_load_row rfl 85 (.tmp 5) rfl V.heap.size rfl 85 _ (0, 0) _ J2.out.j Tryz.underlying85 rfl (sizeJ _ _ _ _ _ _ _) ?_; simp only [Act.put, List.setIfInBounds_toArray, List.set_cons_succ, List.set_cons_zero]))
      | (refine atStore 85 (.tmp 6) (.tmp 17) rfl ?_; go_must (refine wpList_store_row rfl 85 (.tmp 6) (.tmp 17) rfl (V.heap.size + 1) _ rfl rfl 85 _ R0.out.2 (sizeJ _ _ _ _ _ _ _) R0.out.1 (jC_one _ _ _ _ _ _ ONE.out) ?_)))
    refine bodyPost_ret (v := .agg (jC hd rd ep lf cv len 67)) (results_cell_row Tryz.results50 _ _ (V.heap.size + 1) 85 _ (0, 0) _ rfl J2.out.end.1 Tryz.underlying85 rfl (sizeJ _ _ _ _ _ _ _)) rfl ⟨rfl, J2.out.end.2⟩
  · rw [if_neg hs] at hE
    have i1 : ¬ (len : Int) < t + 4 := by omega
    have p1 := HV.out.sub 0 t (Nat.zero_le _) (by omega)
    have p2 := HV.out.sub t (t + 4) (by omega) (by omega)
    have e1 : sliced ao 0 t cap 1 = .slice ao t cap := by
      unfold sliced
      by_cases c0 : cap = 0
      · rw [if_pos c0, Nat.sub_zero, Nat.sub_zero]
      · rw [if_neg c0, Nat.sub_zero, Nat.sub_zero]
        cases ao <;> simp [Addr.add]
    have s1 := fun W => slice_h ao len cap t (by omega) W
    have s2 := fun W => slice_lh ao len cap t (t + 4) (by omega) (by omega) W
    rw [e1] at p1 s1
    obtain ⟨vf, hvf⟩ : ∃ vf, sliced ao t (t + 4) cap 1 = vf := ⟨_, rfl⟩
    rw [hvf] at p2 s2
    rw [show t + 4 - t = 4 by omega] at p2
    rw [Nat.sub_zero] at p1
    have P1 : Hid (SliceN V (.slice ao t cap) t p) := sliceN_cg p1 fun j _ => by rw [Nat.zero_add]
    have P2 : Hid (SliceN V vf 4 fun j => p (t + j)) := p2
    have s2' : ∀ W, (Instr.sliceAt 25 (.slice ao len cap) (some (.int .i64 (t : Int))) (some (.int .i64 ((t : Int) + 4))) none).run Tryz.prog W = .ok vf W := fun W => s2 W
    have HT : Hid (t ≤ 140737488351232) := by show t ≤ _; omega
    clear hs ht p1 p2 e1 s2 hvf hat
    go_enter Tryz.func50, Tryz.ntmps50
    go_wp2_with (first
      | (go_at_call 25; refine (foot_any p t _ _ (P1.out.on HJ.out.bel) HT.out).mono ?_; rintro e w1 ⟨r, rfl, own, hb1⟩))
    have j0 : JS V.heap.size (V.heap.size + 1) V.heap.size hd rd ep lf cv 0 0 V w1 := HJ.out.on hb1
    have HW : Hid (_ ∧ SliceN w1 vf 4 (fun j => p (t + j)) ∧ SliceN w1 r 4 (footF p t)) := ⟨j0, (P2.out.on HJ.out.bel).on hb1, own_slice own fun j _ => footF_lt _ _ _⟩
    clear j0 own hb1 HJ
    have HB : Hid (∀ j, j < 4 → p (t + j) < 256) := fun j hj => HV.out.bytes _ (by have := HT.out; omega)
    refine wp_region_det 45 [(0, 22), (1, 23), (2, 24), (3, 25), (4, 26), (5, 27), (6, 28), (7, 29), (8, 30)] (enV (.slice ao len cap) t vf r p) (fun _ W => Below w1.heap.size w1 W) (by kernel_rfl) (by kernel_rfl) rfl (by kernel_rfl) (by decide) (by decide) ?_ ?_ ?_
    · exact (Below.refl _ _).drew
    · intro j hj l a W hl hf hdep hl2 hcl _ hT
      have lt' := HT.out
      match j, hj with
      | 0, _ => exact stepV rfl rfl (execMvB rfl (hf 0 (by decide))) ⟨⟨_, rfl, rfl⟩, hT⟩
      | 1, _ => exact stepV rfl rfl (execMvB rfl (hf 1 (by decide))) ⟨⟨_, rfl, rfl⟩, hT⟩
      | 2, _ => exact stepV rfl rfl (execMvB rfl (hf 1 (by decide))) ⟨⟨_, rfl, rfl⟩, hT⟩
      | 3, _ => exact stepV rfl rfl (execAddI (q := 4) rfl (hdep _ rfl 2 rfl _ rfl _ rfl) rfl (by omega)) ⟨⟨_, rfl, rfl⟩, hT⟩
      | 4, _ => exact stepV rfl rfl (execSlLH rfl (hdep _ rfl 0 rfl _ rfl _ rfl) (hdep _ rfl 1 rfl _ rfl _ rfl) (hdep _ rfl 3 rfl _ rfl _ rfl) (s2' W)) ⟨⟨_, rfl, rfl⟩, hT⟩
      | 5, _ => exact stepV rfl rfl (execStr rfl (hdep _ rfl 4 rfl _ rfl _ rfl) (HW.out.2.1.on hT)) ⟨⟨_, rfl, rfl⟩, hT⟩
      | 6, _ => exact stepV rfl rfl (execMvB rfl (hf 7 (by decide))) ⟨⟨_, rfl, rfl⟩, hT⟩
      | 7, _ => exact stepV rfl rfl (execStr rfl (hdep _ rfl 6 rfl _ rfl _ rfl) (HW.out.2.2.on hT)) ⟨⟨_, rfl, rfl⟩, hT⟩
      | 8, _ => exact stepV rfl rfl (execNeqN rfl (hdep _ rfl 5 rfl _ rfl _ rfl) (hdep _ rfl 7 rfl _ rfl _ rfl) HB.out (fun j _ => footF_lt _ _ _)) ⟨⟨_, rfl, rfl⟩, hT⟩
      | n + 9, h => exact absurd h (by simp)
    · intro l W hall hT
      have j0 := HW.out.1.on hT
      clear hall hT HW s1 s2' HB
      simp only [putP, enV, Act.put, List.setIfInBounds_toArray, List.set_cons_succ, List.set_cons_zero]
      have e4 := eqN_iff (fun j => p (t + j)) (footF p t) 4
      cases hq : eqN (fun j => p (t + j)) (footF p t) 4 with
      | false =>
        rw [if_neg (fun g => by rw [hq] at e4; exact absurd (e4.2 g) (by simp))] at hE
        subst hE
        have j1 := j0.set hd rd ep lf t 0 ONE.out
        have j2 := j1.set hd rd ep lf t 65 ONE.out
        have J0 : Hid (_) := j0
        have J1 : Hid (_) := j1
        have J2 : Hid (_) := j2
        obtain ⟨c0, s0, r0⟩ := j2.r
        have R0 : Hid (c0.size = 7 ∧ _) := ⟨s0, r0⟩
        clear j0 j1 j2 s0 r0 e4 hq
        go_wp2_with (first
          | (refine atStore 3 (.tmp 32) (.tmp 31) rfl ?_; go_must (refine wpList_exS rfl (execStV (c' := jC hd rd ep lf cv t 0) rfl rfl rfl J0.out.j (by show 5 < 7; decide) (by kernel_rfl) rfl rfl) ?_))
          | (refine atStore 3 (.tmp 33) (.const (.int .i64 65)) rfl ?_; go_must (refine wpList_exS rfl (execStV (c' := jC hd rd ep lf cv t 65) rfl rfl rfl J1.out.j (by show 6 < 7; decide) (by kernel_rfl) rfl rfl) ?_))
          | (refine atLoad 85 (.tmp 5) rfl ?_; go_must (refine wpList_load_row rfl 85 (.tmp 5) rfl V.heap.size rfl 85 _ (0, 0) _ J2.out.j Tryz.underlying85 rfl (sizeJ _ _ _ _ _ _ _) ?_; simp only [Act.put, List.setIfInBounds_toArray, List.set_cons_succ, List.set_cons_zero]))
          | (refine atStore 85 (.tmp 6) (.tmp 34) rfl ?_; go_must (refine wpList_store_row rfl 85 (.tmp 6) (.tmp 34) rfl (V.heap.size + 1) _ rfl rfl 85 _ R0.out.2 (sizeJ _ _ _ _ _ _ _) R0.out.1 (jC_one _ _ _ _ _ _ ONE.out) ?_)))
        refine bodyPost_ret (v := .agg (jC hd rd ep lf cv t 65)) (results_cell_row Tryz.results50 _ _ (V.heap.size + 1) 85 _ (0, 0) _ rfl J2.out.end.1 Tryz.underlying85 rfl (sizeJ _ _ _ _ _ _ _)) rfl ⟨rfl, J2.out.end.2⟩
      | true =>
        rw [if_pos (e4.1 hq)] at hE
        clear e4 hq
        by_cases hm : t + 4 < len
        · rw [if_pos hm] at hE
          subst hE
          have i2 : (len : Int) > t + 4 := by omega
          have j1 := j0.set hd rd ep lf (t + 4 : Nat) 0 ONE.out
          have j2 := j1.set hd rd ep lf (t + 4 : Nat) 66 ONE.out
          have J0 : Hid (_) := j0
          have J1 : Hid (_) := j1
          have J2 : Hid (_) := j2
          obtain ⟨c0, s0, r0⟩ := j2.r
          have R0 : Hid (c0.size = 7 ∧ _) := ⟨s0, r0⟩
          clear j0 j1 j2 s0 r0 hm
          go_wp2_with (first
            | (refine atStore 3 (.tmp 42) (.tmp 41) rfl ?_; go_must (refine wpList_exS rfl (execStV (c' := jC hd rd ep lf cv (t + 4 : Nat) 0) rfl rfl rfl J0.out.j (by show 5 < 7; decide) (by kernel_rfl) rfl rfl) ?_))
            | (refine atStore 3 (.tmp 43) (.const (.int .i64 66)) rfl ?_; go_must (refine wpList_exS rfl (execStV (c' := jC hd rd ep lf cv (t + 4 : Nat) 66) rfl rfl rfl J1.out.j (by show 6 < 7; decide) (by kernel_rfl) rfl rfl) ?_))
            | (refine atLoad 85 (.tmp 5) rfl ?_; go_must (refine wpList_load_row rfl 85 (.tmp 5) rfl V.heap.size rfl 85 _ (0, 0) _ J2.out.j Tryz.underlying85 rfl (sizeJ _ _ _ _ _ _ _) ?_; simp only [Act.put, List.setIfInBounds_toArray, List.set_cons_succ, List.set_cons_zero]))
            | (refine atStore 85 (.tmp 6) (.tmp 44) rfl ?_; go_must (refine wpList_store_row rfl 85 (.tmp 6) (.tmp 44) rfl (V.heap.size + 1) _ rfl rfl 85 _ R0.out.2 (sizeJ _ _ _ _ _ _ _) R0.out.1 (jC_one _ _ _ _ _ _ ONE.out) ?_)))
          refine bodyPost_ret (v := .agg (jC hd rd ep lf cv (t + 4 : Nat) 66)) (results_cell_row Tryz.results50 _ _ (V.heap.size + 1) 85 _ (0, 0) _ rfl J2.out.end.1 Tryz.underlying85 rfl (sizeJ _ _ _ _ _ _ _)) rfl ⟨rfl, J2.out.end.2⟩
        · rw [if_neg hm] at hE
          subst hE
          have i2 : ¬ (len : Int) > t + 4 := by omega
          have J2 : Hid (_) := j0
          obtain ⟨c0, s0, r0⟩ := j0.r
          have R0 : Hid (c0.size = 7 ∧ _) := ⟨s0, r0⟩
          clear j0 s0 r0 hm
          go_wp2_with (first
            | (refine atLoad 85 (.tmp 5) rfl ?_; go_must (refine wpList_load_row rfl 85 (.tmp 5) rfl V.heap.size rfl 85 _ (0, 0) _ J2.out.j Tryz.underlying85 rfl (sizeJ _ _ _ _ _ _ _) ?_; simp only [Act.put, List.setIfInBounds_toArray, List.set_cons_succ, List.set_cons_zero]))
            | (refine atStore 85 (.tmp 6) (.tmp 44) rfl ?_; go_must (refine wpList_store_row rfl 85 (.tmp 6) (.tmp 44) rfl (V.heap.size + 1) _ rfl rfl 85 _ R0.out.2 (sizeJ _ _ _ _ _ _ _) R0.out.1 (jC_one _ _ _ _ _ _ ONE.out) ?_)))
          refine bodyPost_ret (v := .agg (jC hd rd ep lf cv 0 0)) (results_cell_row Tryz.results50 _ _ (V.heap.size + 1) 85 _ (0, 0) _ rfl J2.out.end.1 Tryz.underlying85 rfl (sizeJ _ _ _ _ _ _ _)) rfl ⟨rfl, J2.out.end.2⟩
end Go.Proofs.YthmlfglllhmimaaGreatDoor.Frm

namespace Go.Proofs.YthmlfglllhmimaaGreatDoor.Frm
open Go.RowKit Gf8 Aes By8 Cel
/- The program's frame: numbers and sums. -/

theorem ofInt_u64 {a : Nat} (ha : a < 18446744073709551616) : (BitVec.ofInt 64 (a : Int)).toNat = a := by
  rw [BitVec.ofInt_natCast, BitVec.toNat_ofNat]; exact Nat.mod_eq_of_lt (by omega)
theorem wrap_u64_nat {n : Nat} (h : n < 18446744073709551616) : IntKind.u64.wrap (n : Int) = n := by simp [IntKind.wrap, IntKind.bits, IntKind.signed]; omega
theorem or_u64 {a b : Nat} (ha : a < 18446744073709551616) (hb : b < 18446744073709551616) : bits .or .u64 (a : Int) (b : Int) = ((a ||| b : Nat) : Int) := by
  show IntKind.u64.wrap ((BitVec.ofInt 64 (a : Int) ||| BitVec.ofInt 64 (b : Int)).toNat : Int) = _
  rw [BitVec.toNat_or, ofInt_u64 ha, ofInt_u64 hb, wrap_u64_nat (Nat.or_lt_two_pow (n := 64) ha hb)]
theorem or_add8 (a b : Nat) (hb : b < 256) : a * 256 ||| b = a * 256 + b := by
  have := Nat.shiftLeft_add_eq_or_of_lt (i := 8) hb a
  rw [Nat.shiftLeft_eq] at this
  exact this.symm
theorem or_add16 (a b : Nat) (hb : b < 65536) : a * 65536 ||| b = a * 65536 + b := by
  have := Nat.shiftLeft_add_eq_or_of_lt (i := 16) hb a
  rw [Nat.shiftLeft_eq] at this
  exact this.symm
set_option maxRecDepth 20000 in
theorem pnumber_any (p : Nat → Nat) (len : Nat) (v : Value) (V : World) (hv : SliceN V v len p) (hl : len ≤ 8) :
    Calls Tryz.prog 80 #[v] V fun e w' => e = .returned (.int .u64 (nb p len : Nat)) ∧ w' = V := by
  obtain ⟨⟨ad, cap, rfl, hc1, hc2, hc3⟩, hp⟩ := hv
  have HC : Hid (0 < len → ∃ b off, ad = some ⟨b, off, none⟩ ∧ b < V.heap.size ∧ ∀ j, j < len → V.cell? ⟨b, off + j, none⟩ = some (.int .u8 (p j))) := hc3
  have HP : Hid (∀ j, j < len → p j < 256) := hp
  have HL : Hid (len ≤ 8) := hl
  have lb : (len : Int) ≤ 8 := by omega
  clear hc1 hc2 hc3 hl hp
  go_enter Tryz.func80, Tryz.ntmps80
  go_wp2_with fail
  go_loopw [3, 8] (fun x z W => ∃ i : Nat, i ≤ len ∧ x = .int .u64 (nb p i : Nat) ∧ z = .int .i64 i ∧ W = V) (fun _ z _ => len - (intOf z).toNat)
  case atStart => exact ⟨0, Nat.zero_le _, rfl, rfl, rfl⟩
  case round =>
    obtain ⟨i, hi, rfl, rfl, rfl⟩ := hrel
    by_cases hlt : i < len
    · have i1 : (i : Int) < len := by omega
      obtain ⟨b, off, rfl, _, hc⟩ := HC.out (by omega)
      have l3 := HP.out i hlt
      have l4 : nb p i < 256 ^ 7 := Nat.lt_of_lt_of_le (nb_lt fun j hj => HP.out j (by omega)) (Nat.pow_le_pow_right (by decide) (by have := HL.out; omega))
      have e7 : (256 : Nat) ^ 7 = 72057594037927936 := by decide
      rw [e7] at l4
      obtain ⟨c, hc0⟩ : ∃ c, p i = c := ⟨_, rfl⟩
      obtain ⟨A, hA⟩ : ∃ A, nb p i = A := ⟨_, rfl⟩
      have c1 : wr.cell? ⟨b, off + i, none⟩ = some (.int .u8 c) := by rw [hc i hlt, hc0]
      rw [hA] at l4
      rw [hc0] at l3
      rw [hA]
      have j1 : (A : Int) < 72057594037927936 := by omega
      have j3 : (c : Int) < 256 := by omega
      have HA : Hid (nb p (i + 1) = A * 256 + c) := by
        show nb p (i + 1) = _
        rw [nb, hA, hc0]
      have HK : Hid (i < len) := hlt
      have OR : bits .or .u64 ((A : Int) * 256) (c : Int) = ((A * 256 + c : Nat) : Int) := by
        have := or_u64 (a := A * 256) (b := c) (by omega) (by omega)
        rw [or_add8 _ _ l3] at this
        rw [← this]
        simp
      clear hc l3 l4 hc0 hA hlt hi e7
      go_wp2
      go_roundw
      case rel =>
        refine ⟨i + 1, HK.out, ?_, by go_num, by first | rfl | trivial⟩
        rw [HA.out]
        first | rw [OR] | go_num
      case measure => have := HK.out; simp [intOf]; omega
    · have ei : i = len := by omega
      subst ei
      have i1 : ¬ (i : Int) < i := by omega
      go_wp2
      go_ret
      exact ⟨rfl, rfl⟩
/-- The two sums as a value. -/
def smV (a b : Nat) : Value := .agg #[.int .u32 a, .int .u32 b]
set_option maxRecDepth 20000 in
theorem snumber_any (a b : Nat) (V : World) (ha : a < 65521) (hb : b < 65521) :
    Calls Tryz.prog 46 #[smV a b] V fun e w' => e = .returned (.int .u64 (b * 65536 + a : Nat)) ∧ Below V.heap.size V w' := by
  have j1 : (a : Int) < 65521 := by omega
  have j2 : (b : Int) < 65521 := by omega
  have OR : bits .or .u64 ((b : Int) * 65536) (a : Int) = ((b * 65536 + a : Nat) : Int) := by
    have := or_u64 (a := b * 65536) (b := a) (by omega) (by omega)
    rw [or_add16 _ _ (by omega)] at this
    rw [← this]
    simp
  unfold smV
  have HB : Hid (Below V.heap.size V (V.alloc (.cells #[.int .u32 a, .int .u32 b] 96))) := belNew _ _
  clear ha hb
  go_enter Tryz.func46, Tryz.ntmps46
  go_wp2
  go_ret
  refine ⟨?_, HB.out⟩
  first | rw [OR] | go_num
/-- Two sums in a row. -/
def sm2 (a b : Int) : Array Value := #[.int .u32 a, .int .u32 b]
theorem cell2 {W : World} {R : Nat} {a b : Int} {t : TypeId} (h : W.heap[R]? = some (.cells (sm2 a b) t)) : W.cell? ⟨R, 0, none⟩ = some (.int .u32 a) ∧ W.cell? ⟨R, 1, none⟩ = some (.int .u32 b) := by
  constructor
  · rw [cell_of_row _ _ _ _ _ _ h]; rfl
  · rw [cell_of_row _ _ _ _ _ _ h]; rfl
theorem zeroS : ∀ w, (zeroValue 96).run Tryz.prog w = .ok (.agg (sm2 0 0)) w := by
  intro w
  simp [go_sem, sm2]
theorem sizeS (a b : Int) : (Tryz.prog.info? 96).map (·.size) = some (sm2 a b).size := by
  show _ = some 2
  kernel_rfl
theorem sm2_one (a b : Int) : (sm2 a b).all (·.oneCell') = true := by simp [sm2, Value.oneCell']
set_option maxRecDepth 20000 in
set_option maxHeartbeats 400000 in
theorem nobytes_any (V : World) : Calls Tryz.prog 44 #[] V fun e w' => e = .returned (smV 1 0) ∧ Below V.heap.size V w' := by
  have z := zeroS
  go_enter Tryz.func44, Tryz.ntmps44
  go_wp2_with (first
    | (refine atStore 96 (.tmp 0) (.tmp 1) rfl ?_; go_must (refine wpList_store_row rfl 96 (.tmp 0) (.tmp 1) rfl V.heap.size (sm2 1 0) rfl rfl 96 _ (heapNew V _) (sizeS _ _) rfl (sm2_one _ _) ?_)))
  refine bodyPost_ret (v := smV 1 0) (results_cell_row Tryz.results44 _ _ V.heap.size 96 _ (0, 0) _ rfl (setRow_heap _ _ _ _ _ _ (heapNew V _)) Tryz.underlying96 rfl (sizeS _ _)) rfl ⟨rfl, below4 (belNew V _) (Nat.le_refl _) _⟩
/-- What stands in over: the sums in block R, the answer in block R + 1. -/
structure OvR (R : Nat) (a b : Int) (V W : World) : Prop where
  s : W.heap[R]? = some (.cells (sm2 a b) 96)
  r : ∃ c d, W.heap[R + 1]? = some (.cells (sm2 c d) 96)
  bel : Below R V W
theorem OvR.set {R : Nat} {a b : Int} {V W : World} (h : OvR R a b V W) (c d : Int) : OvR R c d V (W.setRow R (sm2 c d)) := by
  obtain ⟨x, y, hr⟩ := h.r
  exact ⟨setRow_heap _ _ _ _ _ _ h.s, ⟨x, y, by rw [setRow_other _ _ _ _ (by omega)]; exact hr⟩, below4 h.bel (Nat.le_refl _) _⟩
set_option maxRecDepth 20000 in
set_option maxHeartbeats 400000 in
theorem over_any (q : Nat → Nat) (t len : Nat) (v : Value) (V : World) (hv : SliceN V v len fun j => q (t + j)) (hl : len ≤ 140737488351232) :
    Calls Tryz.prog 45 #[smV (adl q t).1 (adl q t).2, v] V fun e w' => e = .returned (smV (adl q (t + len)).1 (adl q (t + len)).2) ∧ Below V.heap.size V w' := by
  obtain ⟨⟨ad, cap, rfl, hc1, hc2, hc3⟩, hp⟩ := hv
  have HC : Hid (0 < len → ∃ b off, ad = some ⟨b, off, none⟩ ∧ b < V.heap.size ∧ ∀ j, j < len → V.cell? ⟨b, off + j, none⟩ = some (.int .u8 (q (t + j)))) := hc3
  have HP : Hid (∀ j, j < len → q (t + j) < 256) := hp
  have HL : Hid (len ≤ 140737488351232) := hl
  have lb : (len : Int) ≤ 140737488351232 := by omega
  have z := zeroS
  obtain ⟨R, hR⟩ : ∃ R, V.heap.size = R := ⟨_, rfl⟩
  obtain ⟨W0, hW⟩ : ∃ W0, (V.alloc (.cells (sm2 (adl q t).1 (adl q t).2) 96)).alloc (.cells (sm2 0 0) 96) = W0 := ⟨_, rfl⟩
  have O0 : Hid (OvR R (adl q t).1 (adl q t).2 V W0) := by
    have h := heap2c V (.cells (sm2 (adl q t).1 (adl q t).2) 96) (.cells (sm2 0 0) 96)
    rw [hW, hR] at h
    refine ⟨h.1, ⟨_, _, h.2⟩, ?_⟩
    rw [← hW, ← hR]
    exact below2c _ _ _
  have HW : Hid ((V.alloc (.cells #[.int .u32 (adl q t).1, .int .u32 (adl q t).2] 96)).alloc (.cells (sm2 0 0) 96) = W0) := hW
  clear hc1 hc2 hc3 hl hp hW
  unfold smV
  go_enter Tryz.func45, Tryz.ntmps45
  go_wp2_with fail
  rw [HW.out]
  try simp only [hR]
  have HR : Hid (V.heap.size = R) := hR
  clear hR z HW
  go_loopw [9] (fun z W => ∃ i : Nat, i ≤ len ∧ z = .int .i64 i ∧ OvR R (adl q (t + i)).1 (adl q (t + i)).2 V W) (fun z _ => len - (intOf z).toNat)
  case atStart => exact ⟨0, Nat.zero_le _, rfl, O0.out⟩
  case round =>
    obtain ⟨i, hi, rfl, ov⟩ := hrel
    clear O0
    by_cases hlt : i < len
    · have i1 : (i : Int) < len := by omega
      obtain ⟨b, off, rfl, hbs, hc⟩ := HC.out (by omega)
      obtain ⟨l1, l2⟩ := adl_lt q (t + i)
      have l3 := HP.out i hlt
      obtain ⟨c, hc0⟩ : ∃ c, q (t + i) = c := ⟨_, rfl⟩
      obtain ⟨A, hA⟩ : ∃ A, (adl q (t + i)).1 = A := ⟨_, rfl⟩
      obtain ⟨B, hB⟩ : ∃ B, (adl q (t + i)).2 = B := ⟨_, rfl⟩
      have c1 : wr.cell? ⟨b, off + i, none⟩ = some (.int .u8 c) := by
        rw [cell_below ov.bel (by have := HR.out; omega), hc i hlt, hc0]
      rw [hA] at l1 ov
      rw [hB] at l2 ov
      rw [hc0] at l3
      have j1 : (A : Int) < 65521 := by omega
      have j2 : (B : Int) < 65521 := by omega
      have j3 : (c : Int) < 256 := by omega
      have HA : Hid (adl q (t + (i + 1)) = ((A + c) % 65521, (B + (A + c) % 65521) % 65521)) := by
        show adl q (t + (i + 1)) = _
        rw [← Nat.add_assoc, adl, hA, hB, hc0]
      have HK : Hid (i < len) := hlt
      have OV : Hid (OvR R A B V wr) := ov
      obtain ⟨k0, k1⟩ := cell2 ov.s
      have k2 : ∀ x : Int, (wr.setRow R (sm2 x B)).cell? ⟨R, 0, none⟩ = some (.int .u32 x) := fun x => (cell2 (ov.set x B).s).1
      have k3 : ∀ x : Int, (wr.setRow R (sm2 x B)).cell? ⟨R, 1, none⟩ = some (.int .u32 B) := fun x => (cell2 (ov.set x B).s).2
      clear hc l1 l2 l3 hc0 hA hB hlt hi ov hbs
      go_wp2_with (first
        | (refine atStore 94 (.tmp 19) (.tmp 18) rfl ?_; go_must (refine wpList_exS rfl (execStV (c' := sm2 _ _) rfl rfl rfl OV.out.s (by show 0 < 2; decide) (by kernel_rfl) rfl rfl) ?_))
        | (refine atStore 94 (.tmp 26) (.tmp 25) rfl ?_; go_must (refine wpList_exS rfl (execStV (c' := sm2 _ _) rfl rfl rfl (OV.out.set _ _).s (by show 1 < 2; decide) (by kernel_rfl) rfl rfl) ?_)))
      go_roundw
      case rel =>
        refine ⟨i + 1, HK.out, by go_num, ?_⟩
        rw [HA.out]
        have := (OV.out.set (((A : Int) + c) % 65521) B).set (((A : Int) + c) % 65521) (((B : Int) + ((A : Int) + c)) % 65521)
        have e1 : (((A + c) % 65521 : Nat) : Int) = ((A : Int) + c) % 65521 := by omega
        have e2 : (((B + (A + c) % 65521) % 65521 : Nat) : Int) = ((B : Int) + ((A : Int) + c)) % 65521 := by omega
        show OvR R (((A + c) % 65521 : Nat) : Int) (((B + (A + c) % 65521) % 65521 : Nat) : Int) V _
        rw [e1, e2]
        exact this
      case measure => have := HK.out; simp [intOf]; omega
    · have ei : i = len := by omega
      subst ei
      have i1 : ¬ (i : Int) < i := by omega
      have OV : Hid (OvR R (adl q (t + i)).1 (adl q (t + i)).2 V wr) := ov
      obtain ⟨x, y, hr⟩ := ov.r
      have RR : Hid (wr.heap[R + 1]? = some (.cells (sm2 x y) 96)) := hr
      clear hr ov
      go_wp2_with (first
        | (refine atLoad 96 (.tmp 2) rfl ?_; go_must (refine wpList_load_row rfl 96 (.tmp 2) rfl R rfl 96 _ (0, 0) _ OV.out.s Tryz.underlying96 rfl (sizeS _ _) ?_; simp only [Act.put, List.setIfInBounds_toArray, List.set_cons_succ, List.set_cons_zero]))
        | (refine atStore 96 (.tmp 4) (.tmp 28) rfl ?_; go_must (refine wpList_store_row rfl 96 (.tmp 4) (.tmp 28) rfl (R + 1) _ rfl rfl 96 _ RR.out (sizeS _ _) rfl (sm2_one _ _) ?_)))
      refine bodyPost_ret (v := smV (adl q (t + i)).1 (adl q (t + i)).2) (results_cell_row Tryz.results45 _ _ (R + 1) 96 _ (0, 0) _ rfl (setRow_heap _ _ _ _ _ _ RR.out) Tryz.underlying96 rfl (sizeS _ _)) rfl ⟨rfl, ?_⟩
      rw [HR.out]
      exact below4 OV.out.bel (by omega) _
end Go.Proofs.YthmlfglllhmimaaGreatDoor.Frm
