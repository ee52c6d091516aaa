import Derived.Test.YtcffmmeafnapiaaDoorB7g
import Derived.Test.YtcffmmeafnapiaaDoorX5l
import Derived.Test.YtcffmmeafnapiaaDoorZ2
namespace Go.Proofs.YtcffmmeafnapiaaDoor.Rou
open Go.RowKit Gf8 Aes By8 Cel Oni
/- A []Peeled in the heap; Walk. -/

theorem infoP : ∃ i, Tryd.prog.info? 42 = some i ∧ i.zero = some (.agg (pC (.slice none 0 0) fun _ => 0)) ∧ i.size = 17 ∧ i.bytes = 40 := by
  have h : (Tryd.prog.info? 42).map (fun i => (i.zero, i.size, i.bytes)) = some (some (.agg (pC (.slice none 0 0) fun _ => 0)), 17, 40) := by kernel_rfl
  cases hq : Tryd.prog.info? 42 with
  | none => rw [hq] at h; cases h
  | some i =>
    rw [hq] at h
    simp only [Option.map_some, Option.some.injEq, Prod.mk.injEq] at h
    exact ⟨i, rfl, h.1, h.2.1, h.2.2⟩
/-- The cells of n Peeled. -/
def yL (P : Nat → List Value) : Nat → List Value
  | 0 => []
  | n + 1 => yL P n ++ P n
theorem yL_len {P : Nat → List Value} (hP : ∀ k, (P k).length = 17) : ∀ n, (yL P n).length = n * 17
  | 0 => rfl
  | n + 1 => by simp only [yL, List.length_append, yL_len hP n, hP]; omega
theorem yL_get {P : Nat → List Value} (hP : ∀ k, (P k).length = 17) : ∀ (n k j : Nat), k < n → j < 17 → (yL P n)[k * 17 + j]? = (P k)[j]?
  | 0, k, j, hk, _ => by omega
  | n + 1, k, j, hk, hj => by
    simp only [yL]
    by_cases h : k < n
    · rw [List.getElem?_append_left (by rw [yL_len hP]; omega)]
      exact yL_get hP n k j h hj
    · obtain rfl : k = n := by omega
      rw [List.getElem?_append_right (by rw [yL_len hP]; omega), yL_len hP, Nat.add_sub_cancel_left]
theorem yL_congr {P Q : Nat → List Value} : ∀ n, (∀ i, i < n → P i = Q i) → yL P n = yL Q n
  | 0, _ => rfl
  | n + 1, h => by simp only [yL]; rw [yL_congr n (fun i hi => h i (by omega)), h n (by omega)]
def updP (P : Nat → List Value) (i : Nat) (q : List Value) : Nat → List Value := fun k => if k = i then q else P k
theorem yL_set {P : Nat → List Value} (hP : ∀ k, (P k).length = 17) {n i : Nat} {q : List Value} (hq : q.length = 17) (hi : i < n) : (yL P n).take (i * 17) ++ q ++ (yL P n).drop (i * 17 + 17) = yL (updP P i q) n := by
  have hU : ∀ k, (updP P i q k).length = 17 := fun k => by unfold updP; split; exact hq; exact hP k
  have hl := yL_len hP n
  have hl2 : ((yL P n).take (i * 17)).length = i * 17 := by rw [List.length_take, hl]; omega
  apply List.ext_getElem?
  intro x
  by_cases hx : x < n * 17
  · obtain ⟨k, j, hk, hj, rfl⟩ : ∃ k j, k < n ∧ j < 17 ∧ x = k * 17 + j := ⟨x / 17, x % 17, by omega, by omega, by omega⟩
    rw [yL_get hU n k j hk hj, List.append_assoc]
    unfold updP
    by_cases h1 : k < i
    · rw [if_neg (by omega), List.getElem?_append_left (by rw [hl2]; omega), List.getElem?_take, if_pos (by omega), yL_get hP n k j hk hj]
    · rw [List.getElem?_append_right (by rw [hl2]; omega), hl2]
      by_cases h2 : k = i
      · subst h2
        rw [if_pos rfl, Nat.add_sub_cancel_left, List.getElem?_append_left (by rw [hq]; exact hj)]
      · rw [if_neg h2, List.getElem?_append_right (by rw [hq]; omega), hq, List.getElem?_drop, show i * 17 + 17 + (k * 17 + j - i * 17 - 17) = k * 17 + j by omega, yL_get hP n k j hk hj]
  · rw [List.getElem?_eq_none (by simp [hl, hq]; omega), List.getElem?_eq_none (by rw [yL_len hU]; omega)]
theorem pC_len (cv : Value) (r : Nat → Nat) : (pC cv r).toList.length = 17 := by rw [Array.length_toList, pC_size]
/-- The row of a walk under way: i hops done. -/
def wyP (cv : Nat → Value) (r : Nat → Nat → Nat) (i k : Nat) : List Value := if k < i then (pC (cv k) (r k)).toList else (pC (.slice none 0 0) fun _ => 0).toList
theorem wyP_len (cv : Nat → Value) (r : Nat → Nat → Nat) (i k : Nat) : (wyP cv r i k).length = 17 := by unfold wyP; split <;> exact pC_len _ _
def wyR (cv : Nat → Value) (r : Nat → Nat → Nat) (h i : Nat) : Array Value := (yL (wyP cv r i) h).toArray
theorem wyR_size (cv : Nat → Value) (r : Nat → Nat → Nat) (h i : Nat) : (wyR cv r h i).size = h * 17 := by unfold wyR; simp [yL_len (wyP_len cv r i)]
theorem made17 {h : Nat} (h8 : h ≤ 8) (cv : Nat → Value) (r : Nat → Nat → Nat) : madeCells (Value.agg (pC (.slice none 0 0) fun _ => 0)).cells (h * 17) = wyR cv r h 0 := by
  have : h = 0 ∨ h = 1 ∨ h = 2 ∨ h = 3 ∨ h = 4 ∨ h = 5 ∨ h = 6 ∨ h = 7 ∨ h = 8 := by omega
  have m0 : madeCells (Value.agg (pC (.slice none 0 0) fun _ => 0)).cells (0 * 17) = wyR cv r 0 0 := by kernel_rfl
  have m1 : madeCells (Value.agg (pC (.slice none 0 0) fun _ => 0)).cells (1 * 17) = wyR cv r 1 0 := by kernel_rfl
  have m2 : madeCells (Value.agg (pC (.slice none 0 0) fun _ => 0)).cells (2 * 17) = wyR cv r 2 0 := by kernel_rfl
  have m3 : madeCells (Value.agg (pC (.slice none 0 0) fun _ => 0)).cells (3 * 17) = wyR cv r 3 0 := by kernel_rfl
  have m4 : madeCells (Value.agg (pC (.slice none 0 0) fun _ => 0)).cells (4 * 17) = wyR cv r 4 0 := by kernel_rfl
  have m5 : madeCells (Value.agg (pC (.slice none 0 0) fun _ => 0)).cells (5 * 17) = wyR cv r 5 0 := by kernel_rfl
  have m6 : madeCells (Value.agg (pC (.slice none 0 0) fun _ => 0)).cells (6 * 17) = wyR cv r 6 0 := by kernel_rfl
  have m7 : madeCells (Value.agg (pC (.slice none 0 0) fun _ => 0)).cells (7 * 17) = wyR cv r 7 0 := by kernel_rfl
  have m8 : madeCells (Value.agg (pC (.slice none 0 0) fun _ => 0)).cells (8 * 17) = wyR cv r 8 0 := by kernel_rfl
  rcases this with rfl | rfl | rfl | rfl | rfl | rfl | rfl | rfl | rfl
  · exact m0
  · exact m1
  · exact m2
  · exact m3
  · exact m4
  · exact m5
  · exact m6
  · exact m7
  · exact m8
theorem wyR_step (cv : Nat → Value) (r : Nat → Nat → Nat) {h i : Nat} (hi : i < h) (v : Value) (rp : Nat → Nat) : ((wyR cv r h i).toList.take (i * 17) ++ (pC v rp).toList ++ (wyR cv r h i).toList.drop (i * 17 + (pC v rp).size)).toArray = wyR (fun k => if k = i then v else cv k) (fun k => if k = i then rp else r k) h (i + 1) := by
  unfold wyR
  congr 1
  rw [pC_size]
  rw [yL_set (wyP_len cv r i) (pC_len v rp) hi]
  refine yL_congr h fun k _ => ?_
  unfold updP wyP
  by_cases e : k = i
  · subst e; rw [if_pos rfl, if_pos (by omega)]; simp
  · rw [if_neg e]
    by_cases e2 : k < i
    · rw [if_pos e2, if_pos (by omega)]; simp only [if_neg e]
    · rw [if_neg e2, if_neg (by omega)]
section
variable {o : Oper} {a : Act} {w : World}
theorem execMkP {x : Operand} {h : Nat} (ho : o.op = .makeSlice 37 x x) (hx : a.eval x = .int .i64 (h : Int)) (h8 : h ≤ 8) (cv : Nat → Value) (r : Nat → Nat → Nat) : (execOp a.eval o).run Tryd.prog w = .ok (.value (.slice (some ⟨w.heap.size, 0, none⟩) h h)) (w.alloc (.cells (wyR cv r h 0) 42)) := by
  obtain ⟨i, h1, h2, h3, h4⟩ := infoP
  have hh := run_make (P := Tryd.prog) w 37 42 i (.agg (pC (.slice none 0 0) fun _ => 0)) Tryd.underlying37 h1 h2 .i64 .i64 (h : Int) (h : Int) (by omega) (by omega) (by rw [h4]; omega) (by omega)
  rw [h3, Int.toNat_natCast, made17 h8 cv r] at hh
  unfold execOp
  simp only [ho, hx, Sem.run_bind, hh, Result.andThen_ok, Sem.run_pure]
theorem execIdxP {x i : Operand} {g n cap k : Nat} (ho : o.op = .indexAddr 37 x i) (hx : a.eval x = .slice (some ⟨g, 0, none⟩) n cap) (hi : a.eval i = .int .i64 (k : Int)) (hk : k < n) : (execOp a.eval o).run Tryd.prog w = .ok (.value (.pointer (some ⟨g, k * 17, none⟩))) w := by
  have h1 : (k : Int) < n := by omega
  unfold execOp
  simp only [ho, hx, hi]
  simp [go_sem, h1]
theorem execFP0 {x : Operand} {b f : Nat} (ho : o.op = .fieldAddr 42 x 0) (hx : a.eval x = .pointer (some ⟨b, f, none⟩)) : (execOp a.eval o).run Tryd.prog w = .ok (.value (.pointer (some ⟨b, f, none⟩))) w := by
  unfold execOp
  simp only [ho, hx]
  simp [go_sem, Addr.add_mid]
theorem execFP1 {x : Operand} {b f : Nat} (ho : o.op = .fieldAddr 42 x 1) (hx : a.eval x = .pointer (some ⟨b, f, none⟩)) : (execOp a.eval o).run Tryd.prog w = .ok (.value (.pointer (some ⟨b, f + 1, none⟩))) w := by
  unfold execOp
  simp only [ho, hx]
  simp [go_sem, Addr.add_mid]
end
/-- What a Walk leaves: a row of n Peeled of its own, each with a cell of its own. -/
structure Way (W : World) (B : Nat) (v : Value) (n : Nat) (cv : Nat → Value) (r c : Nat → Nat → Nat) : Prop where
  row : ∃ a cap, v = .slice a n cap ∧ (0 < n → ∃ g, a = some ⟨g, 0, none⟩ ∧ B ≤ g ∧ g < W.heap.size ∧ ∀ k, k < n → W.rangeAt g (k * 17) (pC (cv k) (r k)).toList)
  own : ∀ k, k < n → W.ownsRow B 5 1 (cv k) 320 (bytesL 320 (c k))
  two : ∀ i k, i < k → k < n → (cv i).ownBlock ≠ (cv k).ownBlock
theorem Way.on {W W' : World} {B : Nat} {v : Value} {n : Nat} {cv : Nat → Value} {r c : Nat → Nat → Nat} (h : Way W B v n cv r c) (hb : Below W.heap.size W W') : Way W' B v n cv r c := by
  obtain ⟨a, cap, e, hr⟩ := h.row
  refine ⟨⟨a, cap, e, fun h0 => ?_⟩, fun k hk => ownsRow_below (h.own k hk) hb, h.two⟩
  obtain ⟨g, e2, h1, h2, h3⟩ := hr h0
  exact ⟨g, e2, h1, Nat.lt_of_lt_of_le h2 hb.size, fun k hk j u hu => by rw [cell_below hb h2]; exact h3 k hk j u hu⟩
theorem range_wy {W : World} {g h : Nat} {cv : Nat → Value} {r : Nat → Nat → Nat} {t : TypeId} (hg : W.heap[g]? = some (.cells (wyR cv r h h) t)) {k : Nat} (hk : k < h) : W.rangeAt g (k * 17) (pC (cv k) (r k)).toList := by
  intro j u hu
  have hj : j < 17 := by have := (List.getElem?_eq_some_iff.1 hu).1; rwa [pC_len] at this
  rw [cell_of_row _ _ _ _ _ _ hg]
  unfold wyR
  rw [List.getElem?_toArray, yL_get (wyP_len cv r h) h k j hk hj]
  unfold wyP
  rw [if_pos hk]
  exact hu
end Go.Proofs.YtcffmmeafnapiaaDoor.Rou

namespace Go.Proofs.YtcffmmeafnapiaaDoor.Rou
open Go.RowKit Gf8 Aes By8 Cel Oni
/- Walk. Written by tools/mkB7p.py. -/

theorem wkC_lt {h : Nat} {key : Nat → Nat → Nat} {lk : Nat → Nat} {len : Nat} {c : Nat → Nat} (hc : ∀ j, j < len → c j < 256) : ∀ i, wkG h key lk len c i = 0 → ∀ j, j < wkL len i → wkC h key c i j < 256
  | 0, _, j, hj => hc j hj
  | i + 1, hg, j, _ => by
    have h0 : wkG h key lk len c i = 0 := by
      by_cases e : wkG h key lk len c i = 0
      · exact e
      · have : wkG h key lk len c (i + 1) = wkG h key lk len c i := wkG_stop e (by omega)
        omega
    rw [wkG_on h0] at hg
    exact peC_lt hg (wkC_lt hc i h0) j
theorem wkG_0 {h : Nat} {key : Nat → Nat → Nat} {lk : Nat → Nat} {len : Nat} {c : Nat → Nat} {n : Nat} (hn : wkG h key lk len c n = 0) {i : Nat} (hi : i ≤ n) : wkG h key lk len c i = 0 := by
  by_cases e : wkG h key lk len c i = 0
  · exact e
  · have := wkG_stop e hi
    omega
theorem wkL_le {len : Nat} (h : len ≤ 140737488351232) (i : Nat) : wkL len i ≤ 140737488351232 := by
  cases i with
  | zero => exact h
  | succ i => show 320 ≤ _; omega
/-- What lies there behind i hops. -/
structure WkS (V W : World) (u : Value) (h len i : Nat) (key : Nat → Nat → Nat) (lk : Nat → Nat) (c : Nat → Nat) (cv : Nat → Value) (r : Nat → Nat → Nat) : Prop where
  sl : SliceZ W u (wkL len i) (wkC h key c i)
  go : wkG h key lk len c i = 0
  row : W.heap[V.heap.size]? = some (.cells (wyR cv r h i) 42)
  own : ∀ k, k < i → W.ownsRow V.heap.size 5 1 (cv k) 320 (bytesL 320 (wkC h key c (k + 1)))
  rep : ∀ k, k < i → r k = wkR h key c k
  two : ∀ j k, j < k → k < i → (cv j).ownBlock ≠ (cv k).ownBlock
  bel : Below V.heap.size V W
theorem own_lt' {W : World} {B n : Nat} {v : Value} {xs : List Value} (h : W.ownsRow B 5 1 v n xs) : ∀ k, v.ownBlock = some k → k < W.heap.size := fun k hk => (h.lt k hk).2
set_option maxRecDepth 20000 in
set_option maxHeartbeats 4000000 in
theorem pwalk_any (kv cv0 : Value) (h len : Nat) (xv : Nat → Value) (lk : Nat → Nat) (key : Nat → Nat → Nat) (c : Nat → Nat) (V : World) (hG : Glob V) (hc : Cells V kv h xv lk key) (hz : SliceZ V cv0 len c) (hb1 : h ≤ 140737488351232) (hb2 : len ≤ 140737488351232) :
    Calls Tryd.prog 14 #[kv, cv0] V fun e w' => ∃ v cv, e = .returned (.tuple #[v, .int .i64 (wkE h key lk len c : Nat)]) ∧ Way w' V.heap.size v (wkN h (wkE h key lk len c)) cv (wkR h key c) (fun k => wkC h key c (k + 1)) ∧ Below V.heap.size V w' := by
  obtain ⟨ca, kc, rfl, _, _, hs⟩ := id hc.shape
  obtain ⟨pa, pc, rfl⟩ := id hz.shape
  have IC := ischain_any (.slice ca h kc) h V ⟨_, _, rfl⟩ hb1
  have nilw : ∀ (W : World) cv r cc, Way W V.heap.size (.slice none 0 0) 0 cv r cc := fun W cv r cc => ⟨⟨none, 0, rfl, fun h => by omega⟩, fun k hk => by omega, fun i k _ hk => by omega⟩
  by_cases hch : 1 ≤ h ∧ h ≤ 8
  · rw [decide_eq_true hch] at IC
    obtain ⟨kb, ko, rfl, hs1, hs2⟩ := hs (by omega)
    have KK : Hid (kb < V.heap.size ∧ ∀ i, i < h → V.cell? ⟨kb, ko + i, none⟩ = some (xv i)) := ⟨hs1, hs2⟩
    have HV : Hid (Glob V ∧ Cells V (.slice (some ⟨kb, ko, none⟩) h kc) h xv lk key ∧ SliceZ V (.slice pa len pc) len c ∧ len ≤ 140737488351232 ∧ 1 ≤ h ∧ h ≤ 8) := ⟨hG, hc, hz, hb2, hch.1, hch.2⟩
    have EW : Hid (wkE h key lk len c = wkG h key lk len c h) := if_neg (by omega)
    have NW : Hid (∀ (W : World) cv r cc, Way W V.heap.size (.slice none 0 0) 0 cv r cc) := nilw
    have i8 : (h : Int) ≤ 8 := by omega
    have zp := zeroP
    clear hG hc hz hb1 hb2 hs hs1 hs2 hch nilw
    go_enter Tryd.func14, Tryd.ntmps14
    go_wp2_with (first
      | (go_at_call 24; refine IC.mono ?_; rintro e w1 ⟨rfl, hw1⟩; rw [hw1]; clear hw1)
      | (refine wpList_ex rfl (execMkP (x := .tmp 15) (h := h) rfl rfl HV.out.2.2.2.2.2 (fun _ => undef) fun _ _ => 0) ?_))
    go_loopw [1, 19] (fun u x W => ∃ (i : Nat) (cv : Nat → Value) (r : Nat → Nat → Nat), i ≤ h ∧ x = .int .i64 (i : Int) ∧ WkS V W u h len i key lk c cv r) (fun _ x _ => h - (intOf x).toNat)
    case atStart =>
      have b0 := belNew V (.cells (wyR (fun _ => undef) (fun _ _ => 0) h 0) 42)
      exact ⟨0, fun _ => undef, fun _ _ => 0, Nat.zero_le _, rfl, HV.out.2.2.1.on b0, rfl, heapNew V _, fun k hk => by omega, fun k hk => by omega, fun j k _ hk => by omega, b0⟩
    case round =>
      obtain ⟨i, cv, r, hi, rfl, st⟩ := hrel
      obtain ⟨oa, oc, rfl⟩ := id st.sl.shape
      have ST : Hid (WkS V wr (.slice oa (wkL len i) oc) h len i key lk c cv r) := st
      by_cases hlt : i < h
      · have i1 : (i : Int) < h := by omega
        obtain ⟨L, hL⟩ : ∃ L, h - i = L := ⟨_, rfl⟩
        have HI : Hid (i < h ∧ h = i + L ∧ h - i = L) := ⟨hlt, by omega, hL⟩
        have c1 : wr.cell? ⟨kb, ko + i, none⟩ = some (xv i) := by rw [cell_below st.bel KK.out.1]; exact KK.out.2 i hlt
        obtain ⟨E, hE⟩ : ∃ E, peE (lk i) (L : Int) (wkL len i) (key i) (wkC h key c i) = E := ⟨_, rfl⟩
        obtain ⟨rp, hrp⟩ : ∃ rp, peR E (key i) (wkC h key c i) = rp := ⟨_, rfl⟩
        have EG : Hid (wkG h key lk len c (i + 1) = E ∧ (E = 0 → rp = wkR h key c i)) := by
          refine ⟨?_, fun e => ?_⟩
          · rw [wkG_on st.go, hL]
            exact hE
          · rw [← hrp, e]
            rfl
        have PL := peel_any (key i) (wkC h key c i) (lk i) (wkL len i) (L : Int) (xv i) (.slice oa (wkL len i) oc) wr (HV.out.1.below st.bel HV.out.1.sz) ((HV.out.2.1.cell i hlt).on st.bel) st.sl (wkL_le HV.out.2.2.2.1 i)
        rw [hE, hrp] at PL
        have ec : wkC h key c (i + 1) = peC (L : Int) (key i) (wkC h key c i) := by rw [← hL]; rfl
        rw [← ec] at PL
        by_cases h0 : E = 0
        · have i2 : ((E : Int) != 0) = false := by simp; omega
          have E0 : Hid (E = 0) := h0
          obtain ⟨ya, yc, ey, _⟩ := (HV.out.2.1.cell i hlt).shape
          rw [ey] at c1 PL
          rw [h0] at PL
          have pn : peN 0 = 320 := rfl
          rw [pn] at PL
          clear st hi hlt hL hE hrp ec h0 ey pn i2
          go_wp2_with (first
            | (refine wpList_ex rfl (execIdxL (x := .tmp 17) (k := i) rfl rfl rfl HI.out.1) ?_)
            | (refine wpList_ex rfl (execLdL (x := .tmp 22) rfl rfl c1) ?_)
            | (refine wpList_ex rfl (execSubJ (x := .tmp 27) (p := h) (q := i) (r := L) rfl rfl rfl HI.out.2.1 (by have := HV.out; omega)) ?_)
            | (go_at_call 17; refine PL.mono ?_; rintro e w2 ⟨r2, rfl, own2, hb2⟩; obtain ⟨a2, c2, rfl⟩ := own_shapeJ own2; have S2 : Hid (w2.ownsRow wr.heap.size 5 1 (.slice a2 320 c2) 320 (bytesL 320 (wkC h key c (i + 1))) ∧ Below wr.heap.size wr w2) := ⟨own2, hb2⟩; clear own2 hb2)
            | (refine atStore 42 (.tmp 9) (.tmp 32) rfl ?_; go_must (refine wpList_exS rfl (execStAll (cells := pC (.slice a2 320 c2) rp) rfl rfl rfl (heapNew w2 _) (by rw [pC_size, pC_size]) (sizeP _ _) (pC_one _ rfl)) ?_; obtain ⟨W3, hW3⟩ : ∃ W3, (w2.alloc (.cells (pC (.slice none 0 0) fun _ => 0) 42)).setRow w2.heap.size (pC (.slice a2 320 c2) rp) = W3 := ⟨_, rfl⟩; have r3 : W3.heap[w2.heap.size]? = some (.cells (pC (.slice a2 320 c2) rp) 42) := (by rw [← hW3]; exact setRow_heap _ _ _ _ _ _ (heapNew w2 _)); have b3 : Below w2.heap.size w2 W3 := (by rw [← hW3]; exact below4 (belNew w2 _) (Nat.le_refl _) _); have b13 := S2.out.2.trans (b3.mono S2.out.2.size); have S3 : Hid (W3.heap[w2.heap.size]? = some (.cells (pC (.slice a2 320 c2) rp) 42) ∧ W3.heap[V.heap.size]? = some (.cells (wyR cv r h i) 42) ∧ W3.ownsRow wr.heap.size 5 1 (.slice a2 320 c2) 320 (bytesL 320 (wkC h key c (i + 1))) ∧ Below wr.heap.size wr W3 ∧ V.heap.size < w2.heap.size) := ⟨r3, (by rw [b13.block _ (Array.getElem?_eq_some_iff.1 ST.out.row).1]; exact ST.out.row), ownsRow_below S2.out.1 b3, b13, (by have := (Array.getElem?_eq_some_iff.1 ST.out.row).1; have := S2.out.2.size; omega)⟩; rw [hW3]; clear r3 b3 b13 hW3)))
          have hR : ∀ (l : Nat → Bool) (X : World), (X = if l 6 = true then W3.drew.setRow V.heap.size (wyR (fun k => if k = i then .slice a2 320 c2 else cv k) (fun k => if k = i then rp else r k) h (i + 1)) else W3.drew) → X.heap[w2.heap.size]? = some (.cells (pC (.slice a2 320 c2) rp) 42) := fun l X hX => by
            rw [hX]
            split
            · rw [setRow_other _ _ _ _ (by have := S3.out.2.2.2.2; omega)]; exact S3.out.1
            · exact S3.out.1
          refine wp_region_det 45 [(0, 37), (1, 38), (2, 39), (3, 40), (4, 41), (5, 42), (7, 1)] (fun i_ => match i_ with | 0 => .slice (some ⟨V.heap.size, 0, none⟩) h h | 1 => .int .i64 (i : Int) | 2 => .agg (pC (.slice a2 320 c2) rp) | 3 => .pointer (some ⟨w2.heap.size, 0, none⟩) | 4 => .slice a2 320 c2 | 5 => .pointer (some ⟨V.heap.size, i * 17, none⟩) | 6 => undef | 7 => .slice a2 320 c2 | _ => undef) (fun l X => X = if l 6 = true then W3.drew.setRow V.heap.size (wyR (fun k => if k = i then .slice a2 320 c2 else cv k) (fun k => if k = i then rp else r k) h (i + 1)) else W3.drew) (by kernel_rfl) (by kernel_rfl) rfl (by kernel_rfl) (by decide) (by decide) ?_ ?_ ?_
          · rfl
          · intro j hj l a X hl hf hdep hl2 hcl _ hT
            match j, hj with
            | 0, _ => exact stepV rfl rfl (execMvB rfl (hf 6 (by decide))) ⟨⟨_, rfl, rfl⟩, hT⟩
            | 1, _ => exact stepV rfl rfl (execMvB rfl (hf 7 (by decide))) ⟨⟨_, rfl, rfl⟩, hT⟩
            | 2, _ => exact stepV rfl rfl (execLdAll rfl (hf 9 (by decide)) (hR l X hT) Tryd.underlying42 rfl (sizeP _ _)) ⟨⟨_, rfl, rfl⟩, hT⟩
            | 3, _ => exact stepV rfl rfl (execFP0 rfl (hf 9 (by decide))) ⟨⟨_, rfl, rfl⟩, hT⟩
            | 4, _ => exact stepV rfl rfl (execLdL rfl (hdep _ rfl 3 rfl _ rfl _ rfl) (pC_at (hR l X hT))) ⟨⟨_, rfl, rfl⟩, hT⟩
            | 5, _ => exact stepV rfl rfl (execIdxP rfl (hdep _ rfl 0 rfl _ rfl _ rfl) (hdep _ rfl 1 rfl _ rfl _ rfl) HI.out.1) ⟨⟨_, rfl, rfl⟩, hT⟩
            | 6, _ =>
              have hT2 : X = W3.drew := by rw [hT, if_neg (by rw [hl]; simp)]
              refine stepS rfl rfl (execStMid (cells := pC (.slice a2 320 c2) rp) rfl (hdep _ rfl 5 rfl _ rfl _ rfl) (hdep _ rfl 2 rfl _ rfl _ rfl) (by rw [hT2]; exact S3.out.2.1) (by rw [wyR_size, pC_size]; have := HI.out.1; omega) (sizeP _ _) (pC_one _ rfl)) ⟨⟨_, rfl, rfl⟩, ?_⟩
              rw [wyR_step cv r HI.out.1, hT2]
              rfl
            | 7, _ => exact stepV rfl rfl (execAsgB rfl (hdep _ rfl 4 rfl _ rfl _ rfl)) ⟨⟨_, rfl, rfl⟩, hT⟩
            | k + 8, h => exact absurd h (by simp)
          · intro l X hall hT
            rw [if_pos (hall 6 (by simp))] at hT
            have N4 : Hid (WkS V X (.slice a2 320 c2) h len (i + 1) key lk c (fun k => if k = i then .slice a2 320 c2 else cv k) (fun k => if k = i then rp else r k)) := by
              have bX : Below V.heap.size V X := by rw [hT]; exact below4 (ST.out.bel.trans (S3.out.2.2.2.1.mono ST.out.bel.size)).drew (Nat.le_refl _) _
              have rowX : X.heap[V.heap.size]? = some (.cells (wyR (fun k => if k = i then .slice a2 320 c2 else cv k) (fun k => if k = i then rp else r k) h (i + 1)) 42) := by rw [hT]; exact setRow_heap _ _ _ _ _ _ (show W3.drew.heap[V.heap.size]? = _ from S3.out.2.1)
              have mv : ∀ (B : Nat) (v : Value) (f : Nat → Nat), W3.ownsRow B 5 1 v 320 (bytesL 320 f) → X.ownsRow B 5 1 v 320 (bytesL 320 f) := fun B v f ho => by
                rw [hT]
                exact ownsRow_row (show W3.drew.ownsRow B 5 1 v 320 (bytesL 320 f) from ho) (show W3.drew.heap[V.heap.size]? = _ from S3.out.2.1) (by decide) _
              have o2 := mv _ _ _ S3.out.2.2.1
              refine ⟨own_sliceZ o2 (fun j hj => wkC_lt HV.out.2.2.1.sl.bytes (i + 1) (EG.out.1.trans E0.out) j hj), EG.out.1.trans E0.out, rowX, fun k hk => ?_, fun k hk => ?_, fun j k hj hk => ?_, bX⟩
              · by_cases e : k = i
                · subst e
                  simp only [if_true]
                  exact own_base o2 ST.out.bel.size
                · simp only [if_neg e]
                  exact mv _ _ _ (ownsRow_below (ST.out.own k (by omega)) S3.out.2.2.2.1)
              · by_cases e : k = i
                · subst e
                  simp only [if_true]
                  exact EG.out.2 E0.out
                · simp only [if_neg e]
                  exact ST.out.rep k (by omega)
              · have ej : j ≠ i := by omega
                simp only [if_neg ej]
                by_cases e : k = i
                · subst e
                  simp only [if_true]
                  intro q
                  obtain ⟨g, cap, e1, hB, _⟩ := own_cells S3.out.2.2.1 (by omega)
                  have hlt := own_lt' (ST.out.own j hj) g (by rw [q, e1]; rfl)
                  omega
                · simp only [if_neg e]
                  exact ST.out.two j k hj (by omega)
            clear hall hT hR
            simp only [putP, Act.put, List.setIfInBounds_toArray, List.set_cons_succ, List.set_cons_zero]
            go_wp2_with fail
            go_roundw
            case rel => exact ⟨i + 1, _, _, HI.out.1, by go_num, N4.out⟩
            case measure => have := HI.out.1; simp [intOf]; omega
        · have i2 : ((E : Int) != 0) = true := by simp; omega
          obtain ⟨ya, yc, ey, _⟩ := (HV.out.2.1.cell i hlt).shape
          rw [ey] at c1 PL
          have EE : Hid (wkE h key lk len c = E ∧ wkN h E = 0) := by
            refine ⟨?_, if_neg h0⟩
            rw [EW.out, wkG_stop (i := i + 1) (by rw [EG.out.1]; exact h0) (by omega)]
            exact EG.out.1
          clear st hi hlt hL hE hrp ec h0 ey
          go_wp2_with (first
            | (refine wpList_ex rfl (execIdxL (x := .tmp 17) (k := i) rfl rfl rfl HI.out.1) ?_)
            | (refine wpList_ex rfl (execLdL (x := .tmp 22) rfl rfl c1) ?_)
            | (refine wpList_ex rfl (execSubJ (x := .tmp 27) (p := h) (q := i) (r := L) rfl rfl rfl HI.out.2.1 (by have := HV.out; omega)) ?_)
            | (go_at_call 17; refine PL.mono ?_; rintro e w2 ⟨r2, rfl, own2, hb2⟩; obtain ⟨a2, c2, rfl⟩ := own_shapeJ own2; have S2 : Hid (Below wr.heap.size wr w2) := hb2; clear own2 hb2)
            | (refine atStore 42 (.tmp 9) (.tmp 32) rfl ?_; go_must (refine wpList_exS rfl (execStAll (cells := pC (.slice a2 (peN E) c2) rp) rfl rfl rfl (heapNew w2 _) (by rw [pC_size, pC_size]) (sizeP _ _) (pC_one _ rfl)) ?_)))
          have bb := ST.out.bel.trans ((S2.out.trans ((below4 (belNew w2 (.cells (pC (.slice none 0 0) fun _ => 0) 42)) (Nat.le_refl _) (pC (.slice a2 (peN E) c2) rp)).mono S2.out.size)).mono ST.out.bel.size)
          refine bodyPost_ret (results_tmp2 rfl _ _ _) rfl ⟨_, fun _ => undef, by rw [EE.out.1]; rfl, by rw [EE.out.1, EE.out.2]; exact NW.out _ _ _ _, bb⟩
      · have i1 : ¬ (i : Int) < h := by omega
        obtain rfl : i = h := by omega
        have EE : Hid (wkE i key lk len c = 0 ∧ wkN i 0 = i) := ⟨EW.out.trans st.go, rfl⟩
        have WW : Hid (Way wr V.heap.size (.slice (some ⟨V.heap.size, 0, none⟩) i i) i cv (wkR i key c) (fun k => wkC i key c (k + 1))) := by
          refine ⟨⟨_, _, rfl, fun _ => ⟨V.heap.size, rfl, Nat.le_refl _, (Array.getElem?_eq_some_iff.1 st.row).1, fun k hk => ?_⟩⟩, st.own, st.two⟩
          rw [← st.rep k hk]
          exact range_wy st.row hk
        clear st hi hlt
        go_wp2_with fail
        refine bodyPost_ret (results_tmp2 rfl _ _ _) rfl ⟨_, by rw [EE.out.1]; rfl, ⟨cv, by rw [EE.out.1, EE.out.2]; exact WW.out⟩, ST.out.bel⟩
  · rw [decide_eq_false hch] at IC
    have E : wkE h key lk len c = 80 := if_pos (by omega)
    rw [E, show wkN h 80 = 0 from if_neg (by omega)]
    have NW : Hid (∀ (W : World) cv r cc, Way W V.heap.size (.slice none 0 0) 0 cv r cc) := nilw
    clear E hG hc hz hb1 hb2 hch hs nilw
    go_enter Tryd.func14, Tryd.ntmps14
    go_wp2_with (go_at_call 24; refine IC.mono ?_; rintro e w1 ⟨rfl, hw1⟩; rw [hw1]; clear hw1)
    refine bodyPost_ret (results_tmp2 rfl _ _ _) rfl ⟨_, fun _ => undef, rfl, NW.out _ _ _ _, Below.refl _ _⟩
end Go.Proofs.YtcffmmeafnapiaaDoor.Rou

namespace Go.Proofs.YtcffmmeafnapiaaDoor.Rou
open Go.RowKit Gf8 Aes By8 Cel Oni
/- sameAll; append of a Peeled. Written by tools/mkB7v.py. -/

/-- A []Peeled to read. -/
def WayN (W : World) (v : Value) (n : Nat) (r c : Nat → Nat → Nat) : Prop :=
  ∃ a cap, v = .slice a n cap ∧ (0 < n → ∃ g, a = some ⟨g, 0, none⟩ ∧ g < W.heap.size ∧ ∀ k, k < n → ∃ u, W.rangeAt g (k * 17) (pC u (r k)).toList ∧ SliceN W u 320 (c k))
theorem WayN.on {W W' : World} {v : Value} {n : Nat} {r c : Nat → Nat → Nat} (h : WayN W v n r c) (hb : Below W.heap.size W W') : WayN W' v n r c := by
  obtain ⟨a, cap, e, h1⟩ := h
  refine ⟨a, cap, e, fun h0 => ?_⟩
  obtain ⟨g, e2, hg, h2⟩ := h1 h0
  refine ⟨g, e2, Nat.lt_of_lt_of_le hg hb.size, fun k hk => ?_⟩
  obtain ⟨u, h3, h4⟩ := h2 k hk
  exact ⟨u, fun j x hx => by rw [cell_below hb hg]; exact h3 j x hx, h4.on hb⟩
theorem Way.read {W : World} {B : Nat} {v : Value} {n : Nat} {cv : Nat → Value} {r c : Nat → Nat → Nat} (h : Way W B v n cv r c) (hl : ∀ k, k < n → ∀ j, j < 320 → c k j < 256) : WayN W v n r c := by
  obtain ⟨a, cap, e, h1⟩ := h.row
  refine ⟨a, cap, e, fun h0 => ?_⟩
  obtain ⟨g, e2, _, hg, h2⟩ := h1 h0
  exact ⟨g, e2, hg, fun k hk => ⟨cv k, h2 k hk, own_slice (h.own k hk) (hl k hk)⟩⟩
theorem range_0 {W : World} {g f : Nat} {u : Value} {r : Nat → Nat} (h : W.rangeAt g f (pC u r).toList) : W.cell? ⟨g, f, none⟩ = some u := h 0 u rfl
theorem range_r {W : World} {g f : Nat} {u : Value} {r : Nat → Nat} (h : W.rangeAt g f (pC u r).toList) : ∀ j, j < 16 → W.cell? ⟨g, f + 1 + j, none⟩ = some (.int .u8 (r j)) := by
  intro j hj
  rw [show f + 1 + j = f + (1 + j) by omega]
  refine h (1 + j) _ ?_
  rw [pC, Nat.add_comm]
  simp only [List.getElem?_cons_succ]
  exact bytesL_at 16 r hj
set_option maxRecDepth 20000 in
set_option maxHeartbeats 4000000 in
theorem sameAll_true (va vb : Value) (n : Nat) (r c : Nat → Nat → Nat) (V : World) (ha : WayN V va n r c) (hb : WayN V vb n r c) (hn : n ≤ 8) :
    Calls Tryd.prog 18 #[va, vb] V fun e w' => e = .returned (.bool true) ∧ Below V.heap.size V w' := by
  obtain ⟨aa, ca, rfl, ha1⟩ := ha
  obtain ⟨ab, cb, rfl, hb1⟩ := hb
  have HA : Hid (0 < n → ∃ g, aa = some ⟨g, 0, none⟩ ∧ g < V.heap.size ∧ ∀ k, k < n → ∃ u, V.rangeAt g (k * 17) (pC u (r k)).toList ∧ SliceN V u 320 (c k)) := ha1
  have HB : Hid (0 < n → ∃ g, ab = some ⟨g, 0, none⟩ ∧ g < V.heap.size ∧ ∀ k, k < n → ∃ u, V.rangeAt g (k * 17) (pC u (r k)).toList ∧ SliceN V u 320 (c k)) := hb1
  have i8 : (n : Int) ≤ 8 := by omega
  have HN : Hid (n ≤ 8) := hn
  have i0 : ((n : Int) != (n : Int)) = false := by simp
  clear ha1 hb1 hn
  go_enter Tryd.func18, Tryd.ntmps18
  go_wp2_with fail
  go_loopw [5] (fun z W => ∃ i : Nat, i ≤ n ∧ z = .int .i64 (i : Int) ∧ Below V.heap.size V W) (fun z _ => n - (intOf z).toNat)
  case atStart => exact ⟨0, Nat.zero_le _, rfl, Below.refl _ _⟩
  case round =>
    obtain ⟨i, hi, rfl, bel⟩ := hrel
    have BL : Hid (Below V.heap.size V wr) := bel
    by_cases hlt : i < n
    · have i1 : (i : Int) < n := by omega
      obtain ⟨ga, rfl, hga, hua⟩ := HA.out (by omega)
      obtain ⟨gb, rfl, hgb, hub⟩ := HB.out (by omega)
      obtain ⟨ua, ra, sa⟩ := hua i hlt
      obtain ⟨ub, rb, sb⟩ := hub i hlt
      have UA : Hid (ga < wr.heap.size ∧ wr.cell? ⟨ga, i * 17, none⟩ = some ua ∧ (∀ j, j < 16 → wr.cell? ⟨ga, i * 17 + 1 + j, none⟩ = some (.int .u8 (r i j))) ∧ SliceN wr ua 320 (c i)) := ⟨Nat.lt_of_lt_of_le hga bel.size, by rw [cell_below bel hga]; exact range_0 ra, fun j hj => by rw [cell_below bel hga]; exact range_r ra j hj, sa.on bel⟩
      have UB : Hid (gb < wr.heap.size ∧ wr.cell? ⟨gb, i * 17, none⟩ = some ub ∧ (∀ j, j < 16 → wr.cell? ⟨gb, i * 17 + 1 + j, none⟩ = some (.int .u8 (r i j))) ∧ SliceN wr ub 320 (c i)) := ⟨Nat.lt_of_lt_of_le hgb bel.size, by rw [cell_below bel hgb]; exact range_0 rb, fun j hj => by rw [cell_below bel hgb]; exact range_r rb j hj, sb.on bel⟩
      have HI : Hid (i < n) := hlt
      clear hlt hi bel hga hgb hua hub ra rb sa sb
      go_wp2_with fail
      refine wp_region_det 43 [(0, 17), (1, 18), (2, 19), (3, 20), (4, 21), (5, 22), (6, 23), (7, 24), (8, 25), (9, 26), (10, 27), (11, 28), (12, 29), (13, 30), (14, 31), (15, 32), (16, 33), (17, 34), (18, 35), (19, 36), (20, 37), (21, 38), (22, 39), (23, 40), (24, 41), (25, 42)] (fun i_ => match i_ with | 0 => .slice (some ⟨ga, 0, none⟩) n ca | 1 => .int .i64 (i : Int) | 2 => .pointer (some ⟨ga, i * 17, none⟩) | 3 => .pointer (some ⟨ga, i * 17 + 1, none⟩) | 4 => .agg (bA 16 (r i)) | 5 => .slice (some ⟨gb, 0, none⟩) n cb | 6 => .int .i64 (i : Int) | 7 => .pointer (some ⟨gb, i * 17, none⟩) | 8 => .pointer (some ⟨gb, i * 17 + 1, none⟩) | 9 => .agg (bA 16 (r i)) | 10 => .bool false | 11 => .bool false | 12 => .slice (some ⟨ga, 0, none⟩) n ca | 13 => .int .i64 (i : Int) | 14 => .pointer (some ⟨ga, i * 17, none⟩) | 15 => .pointer (some ⟨ga, i * 17, none⟩) | 16 => ua | 17 => .string (strN (c i) 320) | 18 => .slice (some ⟨gb, 0, none⟩) n cb | 19 => .int .i64 (i : Int) | 20 => .pointer (some ⟨gb, i * 17, none⟩) | 21 => .pointer (some ⟨gb, i * 17, none⟩) | 22 => ub | 23 => .string (strN (c i) 320) | 24 => .bool false | 25 => .bool false | _ => undef) (fun _ X => Below wr.heap.size wr X) (by kernel_rfl) (by kernel_rfl) rfl (by kernel_rfl) (by decide) (by decide) ?_ ?_ ?_
      · exact (Below.refl _ _).drew
      · intro j hj l a X hl hf hdep hl2 hcl _ hT
        match j, hj with
        | 0, _ => exact stepV rfl rfl (execMvB rfl (hf 0 (by decide))) ⟨⟨_, rfl, rfl⟩, hT⟩
        | 1, _ => exact stepV rfl rfl (execMvB rfl (hf 5 (by decide))) ⟨⟨_, rfl, rfl⟩, hT⟩
        | 2, _ => exact stepV rfl rfl (execIdxP rfl (hdep _ rfl 0 rfl _ rfl _ rfl) (hdep _ rfl 1 rfl _ rfl _ rfl) HI.out) ⟨⟨_, rfl, rfl⟩, hT⟩
        | 3, _ => exact stepV rfl rfl (execFP1 rfl (hdep _ rfl 2 rfl _ rfl _ rfl)) ⟨⟨_, rfl, rfl⟩, hT⟩
        | 4, _ => exact stepV rfl rfl (execLdList (k := 16) (q := r i) rfl (hdep _ rfl 3 rfl _ rfl _ rfl) (fun j hj => by rw [cell_below hT UA.out.1]; exact UA.out.2.2.1 j hj) Tryd.underlying40 rfl (by kernel_rfl)) ⟨⟨_, rfl, rfl⟩, hT⟩
        | 5, _ => exact stepV rfl rfl (execMvB rfl (hf 1 (by decide))) ⟨⟨_, rfl, rfl⟩, hT⟩
        | 6, _ => exact stepV rfl rfl (execMvB rfl (hf 5 (by decide))) ⟨⟨_, rfl, rfl⟩, hT⟩
        | 7, _ => exact stepV rfl rfl (execIdxP rfl (hdep _ rfl 5 rfl _ rfl _ rfl) (hdep _ rfl 6 rfl _ rfl _ rfl) HI.out) ⟨⟨_, rfl, rfl⟩, hT⟩
        | 8, _ => exact stepV rfl rfl (execFP1 rfl (hdep _ rfl 7 rfl _ rfl _ rfl)) ⟨⟨_, rfl, rfl⟩, hT⟩
        | 9, _ => exact stepV rfl rfl (execLdList (k := 16) (q := r i) rfl (hdep _ rfl 8 rfl _ rfl _ rfl) (fun j hj => by rw [cell_below hT UB.out.1]; exact UB.out.2.2.1 j hj) Tryd.underlying40 rfl (by kernel_rfl)) ⟨⟨_, rfl, rfl⟩, hT⟩
        | 10, _ => exact stepV rfl rfl (exec_notsame16 rfl (hdep _ rfl 4 rfl _ rfl _ rfl) (hdep _ rfl 9 rfl _ rfl _ rfl) (fun _ _ => rfl)) ⟨⟨_, rfl, rfl⟩, hT⟩
        | 11, _ => exact stepV rfl rfl (execMvB rfl (hdep _ rfl 10 rfl _ rfl _ rfl)) ⟨⟨_, rfl, rfl⟩, hT⟩
        | 12, _ => exact stepV rfl (wantedOf rfl (yieldedAt rfl rfl (show a.eval (.tmp 28) = .bool false from (hdep _ rfl 11 rfl _ rfl _ rfl)))) (execMvB rfl (hf 0 (by decide))) ⟨⟨_, rfl, rfl⟩, hT⟩
        | 13, _ => exact stepV rfl (wantedOf rfl (yieldedAt rfl rfl (show a.eval (.tmp 28) = .bool false from (hdep _ rfl 11 rfl _ rfl _ rfl)))) (execMvB rfl (hf 5 (by decide))) ⟨⟨_, rfl, rfl⟩, hT⟩
        | 14, _ => exact stepV rfl (wantedOf rfl (yieldedAt rfl rfl (show a.eval (.tmp 28) = .bool false from (hdep _ rfl 11 rfl _ rfl _ rfl)))) (execIdxP rfl (hdep _ rfl 12 rfl _ rfl _ rfl) (hdep _ rfl 13 rfl _ rfl _ rfl) HI.out) ⟨⟨_, rfl, rfl⟩, hT⟩
        | 15, _ => exact stepV rfl (wantedOf rfl (yieldedAt rfl rfl (show a.eval (.tmp 28) = .bool false from (hdep _ rfl 11 rfl _ rfl _ rfl)))) (execFP0 rfl (hdep _ rfl 14 rfl _ rfl _ rfl)) ⟨⟨_, rfl, rfl⟩, hT⟩
        | 16, _ => exact stepV rfl (wantedOf rfl (yieldedAt rfl rfl (show a.eval (.tmp 28) = .bool false from (hdep _ rfl 11 rfl _ rfl _ rfl)))) (execLdL rfl (hdep _ rfl 15 rfl _ rfl _ rfl) (by rw [cell_below hT UA.out.1]; exact UA.out.2.1)) ⟨⟨_, rfl, rfl⟩, hT⟩
        | 17, _ => exact stepV rfl (wantedOf rfl (yieldedAt rfl rfl (show a.eval (.tmp 28) = .bool false from (hdep _ rfl 11 rfl _ rfl _ rfl)))) (By8.execStr rfl (hdep _ rfl 16 rfl _ rfl _ rfl) (UA.out.2.2.2.on hT)) ⟨⟨_, rfl, rfl⟩, hT⟩
        | 18, _ => exact stepV rfl (wantedOf rfl (yieldedAt rfl rfl (show a.eval (.tmp 28) = .bool false from (hdep _ rfl 11 rfl _ rfl _ rfl)))) (execMvB rfl (hf 1 (by decide))) ⟨⟨_, rfl, rfl⟩, hT⟩
        | 19, _ => exact stepV rfl (wantedOf rfl (yieldedAt rfl rfl (show a.eval (.tmp 28) = .bool false from (hdep _ rfl 11 rfl _ rfl _ rfl)))) (execMvB rfl (hf 5 (by decide))) ⟨⟨_, rfl, rfl⟩, hT⟩
        | 20, _ => exact stepV rfl (wantedOf rfl (yieldedAt rfl rfl (show a.eval (.tmp 28) = .bool false from (hdep _ rfl 11 rfl _ rfl _ rfl)))) (execIdxP rfl (hdep _ rfl 18 rfl _ rfl _ rfl) (hdep _ rfl 19 rfl _ rfl _ rfl) HI.out) ⟨⟨_, rfl, rfl⟩, hT⟩
        | 21, _ => exact stepV rfl (wantedOf rfl (yieldedAt rfl rfl (show a.eval (.tmp 28) = .bool false from (hdep _ rfl 11 rfl _ rfl _ rfl)))) (execFP0 rfl (hdep _ rfl 20 rfl _ rfl _ rfl)) ⟨⟨_, rfl, rfl⟩, hT⟩
        | 22, _ => exact stepV rfl (wantedOf rfl (yieldedAt rfl rfl (show a.eval (.tmp 28) = .bool false from (hdep _ rfl 11 rfl _ rfl _ rfl)))) (execLdL rfl (hdep _ rfl 21 rfl _ rfl _ rfl) (by rw [cell_below hT UB.out.1]; exact UB.out.2.1)) ⟨⟨_, rfl, rfl⟩, hT⟩
        | 23, _ => exact stepV rfl (wantedOf rfl (yieldedAt rfl rfl (show a.eval (.tmp 28) = .bool false from (hdep _ rfl 11 rfl _ rfl _ rfl)))) (By8.execStr rfl (hdep _ rfl 22 rfl _ rfl _ rfl) (UB.out.2.2.2.on hT)) ⟨⟨_, rfl, rfl⟩, hT⟩
        | 24, _ => exact stepV rfl (wantedOf rfl (yieldedAt rfl rfl (show a.eval (.tmp 28) = .bool false from (hdep _ rfl 11 rfl _ rfl _ rfl)))) (By8.execNeqS rfl (hdep _ rfl 17 rfl _ rfl _ rfl) (hdep _ rfl 23 rfl _ rfl _ rfl)) ⟨⟨_, rfl, rfl⟩, hT⟩
        | 25, _ => exact stepV rfl rfl (execPick (b := false) rfl (hdep _ rfl 11 rfl _ rfl _ rfl) (hdep _ rfl 24 rfl _ rfl _ rfl)) ⟨⟨_, rfl, rfl⟩, hT⟩
        | k + 26, h => exact absurd h (by simp)
      · intro l X hall hT
        have S1 : Hid (Below V.heap.size V X) := BL.out.trans (hT.mono BL.out.size)
        clear hall hT
        simp only [putP, Act.put, List.setIfInBounds_toArray, List.set_cons_succ, List.set_cons_zero]
        go_wp2_with fail
        go_roundw
        case rel => exact ⟨i + 1, HI.out, by go_num, S1.out⟩
        case measure => have := HI.out; simp [intOf]; omega
    · have i1 : ¬ (i : Int) < n := by omega
      clear hlt hi bel
      go_wp2_with fail
      go_ret
      exact ⟨rfl, BL.out⟩
/-- A row of one's own of another type stays where another is grown. -/
theorem own5_grown {W W' : World} {B B2 n m s : Nat} {v u : Value} {xs ys : List Value} {t : TypeId} (h : W.ownsRow B 5 1 v n xs) (ho : W.ownsRow B2 t s u m ys) (ht : t ≠ 5) (hg : W.grownBy W' u.ownBlock) : W'.ownsRow B 5 1 v n xs := by
  refine ⟨h.1, ?_⟩
  rcases h.2 with h | ⟨g, cap, cur, e, hB, hgr, h1, h2, h3, h4⟩
  · exact Or.inl h
  · refine Or.inr ⟨g, cap, cur, e, hB, ?_, h1, h2, h3, h4⟩
    rw [hg.block g (Array.getElem?_eq_some_iff.1 hgr).1 ?_]
    · exact hgr
    · intro q
      rcases ho.2 with ⟨rfl, _⟩ | ⟨g2, cap2, cur2, rfl, _, hg2, _⟩
      · cases q
      · have : g = g2 := by simpa [Value.ownBlock] using q
        subst this
        rw [hgr] at hg2
        injection hg2 with hg2
        injection hg2 with _ e5
        exact ht e5.symm
theorem ownW_below {W W' : World} {B n s : Nat} {t : TypeId} {v : Value} {xs : List Value} (h : W.ownsRow B t s v n xs) (hb : Below W.heap.size W W') : W'.ownsRow B t s v n xs := by
  refine ⟨h.1, ?_⟩
  rcases h.2 with h | ⟨g, cap, cur, e, hB, hgr, h1, h2, h3, h4⟩
  · exact Or.inl h
  · exact Or.inr ⟨g, cap, cur, e, hB, by rw [hb.block _ (Array.getElem?_eq_some_iff.1 hgr).1]; exact hgr, h1, h2, h3, h4⟩
theorem ownW_base {W : World} {B C n s : Nat} {t : TypeId} {v : Value} {xs : List Value} (h : W.ownsRow C t s v n xs) (hB : B ≤ C) : W.ownsRow B t s v n xs := by
  refine ⟨h.1, ?_⟩
  rcases h.2 with h | ⟨g, cap, cur, e, hC, h2⟩
  · exact Or.inl h
  · exact Or.inr ⟨g, cap, cur, e, Nat.le_trans hB hC, h2⟩
section
variable {ops : Array Oper} {rest : List Oper} {o : Oper} {a : Act} {w W : World} {Q : Exit → Act → World → Prop}
end
end Go.Proofs.YtcffmmeafnapiaaDoor.Rou
