import Derived.Test.YtfhldpdnoaoohaaDoorF4
import Derived.Test.YtfhldpdnoaoohaaDoorB4
import Derived.Test.YtfhldpdnoaoohaaDoorB5
import Derived.Test.YtfhldpdnoaoohaaDoorC0
import Derived.Laws.BytesArg
namespace Go.Proofs.YtfhldpdnoaoohaaDoor
open Go.RowKit

theorem sch1_congr {b b' : Nat → Int} : ∀ k, (∀ i, i < k → b i = b' i) → sch1 b k = sch1 b' k
  | 0, _ => rfl
  | k + 1, h => by simp only [sch1]; rw [sch1_congr k (fun i hi => h i (by omega)), h k (by omega)]
theorem sched_congr {b b' : Nat → Int} (h : ∀ i, i < 64 → b i = b' i) : sched b = sched b' := by
  unfold sched; rw [sch1_congr 64 h]
theorem hW_mod (i : Nat) : hW i % 4294967296 = hW i := by
  by_cases h : i < 8
  · have : ∀ j : Fin 8, hW j.val % 4294967296 = hW j.val := by decide +kernel
    exact this ⟨i, h⟩
  · have : hW i = 0 := by
      unfold hW
      rw [List.getD_eq_getElem?_getD, List.getElem?_eq_none (by simp [hList]; omega)]
      rfl
    rw [this]; rfl
theorem stW_wkG (g r : Nat → Int) : stW (wkG g r) = fun i => (stW g i + iterR kW (sched r) (stW g) 64 i) % 4294967296 := by
  funext i
  show (hW i + (g i + iterR kW (sched r) (stW g) 64 i) % 4294967296) % 4294967296 = ((hW i + g i) % 4294967296 + iterR kW (sched r) (stW g) 64 i) % 4294967296
  generalize iterR kW (sched r) (stW g) 64 i = x
  omega
theorem overlay_full (r q : Nat → Int) (i : Nat) (hi : i < 64) : overlay r 0 64 q i = q i := by
  simp [overlay, hi]
/-- Behind whole blocks. -/
theorem blocks (p P : Nat → Int) : ∀ j, (∀ i, i < 64 * j → P i = p i) → stW (addN HS.new p (64 * j)).g = rst P j ∧ (addN HS.new p (64 * j)).r = fun _ => 0
  | 0, _ => ⟨by
      funext i
      show (hW i + 0) % 4294967296 = hW i
      rw [Int.add_zero, hW_mod], rfl⟩
  | j + 1, h => by
    obtain ⟨h1, h2⟩ := blocks p P j (fun i hi => h i (by omega))
    have hn : (addN HS.new p (64 * j)).n % 64 = 0 := by rw [addN_n]; simp [HS.new]
    have hf := addN_full (addN HS.new p (64 * j)) (fun i => p (64 * j + i)) 64 (by omega) (by omega)
    rw [show 64 * (j + 1) = 64 * j + 64 by omega, addN_add, hf]
    refine ⟨?_, rfl⟩
    simp only
    rw [stW_wkG, h1, rst_succ, hn]
    have e : sched (overlay (addN HS.new p (64 * j)).r 0 64 fun i => p (64 * j + i)) = sched fun b => P (64 * j + b) := sched_congr fun i hi => by
      rw [overlay_full _ _ _ hi, h (64 * j + i) (by omega)]
    rw [e]
theorem padF_get (p : Nat → Int) (len z i : Nat) : padF p len z i = if i < len then p i else if i = len then 128 else if i < len + 1 + z then 0 else if i < len + 1 + z + 8 then lenB len (i - (len + 1 + z)) else 0 := by
  unfold padF padL firstL
  rw [List.getD_eq_getElem?_getD]
  by_cases h1 : i < len
  · rw [if_pos h1, List.append_assoc, List.append_assoc, List.getElem?_append_left (by simpa using h1)]
    simp [h1]
  · rw [if_neg h1, List.append_assoc, List.append_assoc, List.getElem?_append_right (by simp; omega)]
    simp only [List.length_map, List.length_range]
    by_cases h2 : i = len
    · rw [if_pos h2]; subst h2; simp
    · rw [if_neg h2, List.getElem?_append_right (by simp; omega)]
      simp only [List.length_singleton]
      by_cases h3 : i < len + 1 + z
      · rw [if_pos h3, List.getElem?_append_left (by simp; omega)]
        simp [show i - len - 1 < z by omega]
      · rw [if_neg h3, List.getElem?_append_right (by simp; omega)]
        simp only [List.length_replicate]
        by_cases h4 : i < len + 1 + z + 8
        · rw [if_pos h4]
          rw [show i - len - 1 - z = i - (len + 1 + z) by omega]
          simp [show i - (len + 1 + z) < 8 by omega]
        · rw [if_neg h4]
          simp [show ¬ i - len - 1 - z < 8 by omega]

/-- THE DIGEST IS THE REFERENCE's. -/
theorem rst_sum (p : Nat → Int) (len z : Nat) (hz : z < 64) (hz2 : (len + 1 + z) % 64 = 56) : digB (rst (padF p len z) ((len + 1 + z + 8) / 64)) = sumD (addN HS.new p len) := by
  obtain ⟨q, r, hlen, hr⟩ : ∃ q r, len = 64 * q + r ∧ r < 64 := ⟨len / 64, len % 64, by omega, by omega⟩
  have hP := padF_get p len z
  obtain ⟨b1, b2⟩ := blocks p (padF p len z) q (fun i hi => by rw [hP, if_pos (by omega)])
  have hn0 : (addN HS.new p (64 * q)).n % 64 = 0 := by rw [addN_n]; simp [HS.new]
  have ht : addN HS.new p len = ⟨(addN HS.new p (64 * q)).g, overlay (addN HS.new p (64 * q)).r 0 r (fun i => p (64 * q + i)), (addN HS.new p (64 * q)).n + r⟩ := by
    have h := addN_part (addN HS.new p (64 * q)) (fun i => p (64 * q + i)) r (by omega)
    rw [hn0] at h
    rw [← h, ← addN_add, ← hlen]
  have hn : (addN HS.new p (64 * q)).n + r = len := by rw [addN_n]; simp [HS.new]; omega
  rw [hn, b2] at ht
  obtain ⟨g, hg⟩ : ∃ g, g = (addN HS.new p (64 * q)).g := ⟨_, rfl⟩
  rw [← hg] at ht b1
  rw [ht]
  unfold sumD
  congr 1
  simp only
  unfold padG
  have hm : len % 64 = r := by omega
  by_cases h56 : r < 56
  · have hT : (len + 1 + z + 8) / 64 = q + 1 := by omega
    have hpg : pg g (overlay (fun _ => 0) 0 r fun i => p (64 * q + i)) len = g := by unfold pg; rw [if_pos (by omega)]
    rw [hT, rst_succ, hpg, stW_wkG, b1]
    have e : (sched fun b => padF p len z (64 * q + b)) = sched (lenR (pr (overlay (fun _ => 0) 0 r fun i => p (64 * q + i)) len) len 8) := sched_congr fun i hi => by
      rw [hP]
      unfold lenR pr padR upd overlay
      rw [if_pos (show len % 64 < 56 by omega), hm]
      by_cases c1 : i < r
      · rw [if_pos (by omega), if_neg (by omega)]
        simp only
        rw [if_neg (by omega), if_pos (by omega), Nat.sub_zero]
      · by_cases c2 : i = r
        · rw [if_neg (by omega), if_pos (by omega), if_neg (by omega)]
          simp only
          rw [if_pos c2]
        · by_cases c3 : i < 56
          · rw [if_neg (by omega), if_neg (by omega), if_pos (by omega), if_neg (by omega)]
            simp only
            rw [if_neg c2, if_neg (by omega)]
          · rw [if_neg (by omega), if_neg (by omega), if_neg (by omega), if_pos (by omega), if_pos (by omega), show 64 * q + i - (len + 1 + z) = i - 56 by omega]
    rw [e]
  · have hT : (len + 1 + z + 8) / 64 = q + 1 + 1 := by omega
    have hpg : pg g (overlay (fun _ => 0) 0 r fun i => p (64 * q + i)) len = wkG g (padR (overlay (fun _ => 0) 0 r fun i => p (64 * q + i)) len) := by unfold pg; rw [if_neg (by omega)]
    have e1 : (sched fun b => padF p len z (64 * q + b)) = sched (padR (overlay (fun _ => 0) 0 r fun i => p (64 * q + i)) len) := sched_congr fun i hi => by
      rw [hP]
      unfold padR upd overlay
      rw [hm]
      by_cases c1 : i < r
      · rw [if_pos (by omega), if_neg (by omega), if_pos (by omega), Nat.sub_zero]
      · by_cases c2 : i = r
        · rw [if_neg (by omega), if_pos (by omega), if_pos c2]
        · rw [if_neg (by omega), if_neg (by omega), if_pos (by omega), if_neg c2, if_neg (by omega)]
    have e2 : (sched fun b => padF p len z (64 * (q + 1) + b)) = sched (lenR (pr (overlay (fun _ => 0) 0 r fun i => p (64 * q + i)) len) len 8) := sched_congr fun i hi => by
      rw [hP]
      unfold lenR pr
      rw [if_neg (show ¬ len % 64 < 56 by omega)]
      by_cases c3 : i < 56
      · rw [if_neg (by omega), if_neg (by omega), if_pos (by omega), if_neg (by omega)]
      · rw [if_neg (by omega), if_neg (by omega), if_neg (by omega), if_pos (by omega), if_pos (by omega), show 64 * (q + 1) + i - (len + 1 + z) = i - 56 by omega]
    rw [hT, rst_succ, rst_succ, hpg, stW_wkG, stW_wkG, b1, e1, e2]

/-- THE REFERENCE's SUM, by the program's own functions. -/
theorem rsum_is (v : Value) (len : Nat) (p : Nat → Int) (w : World) (hbig : len + 200 ≤ 200000000000000) (hv : SliceB w v len p) (hnil : ∀ cap, v = .slice none len cap → cap = 0) :
    Calls Tryd.prog 76 #[v] w fun e w' => e = .returned (.agg (tab8 32 (sumD (addN HS.new p len)))) ∧ Below w.heap.size w w' :=
  (rsum_any v len p w hbig hv hnil).mono fun e w' ⟨z, h1, h2, he, hb⟩ => by
    rw [rst_sum p len z h1 h2] at he
    exact ⟨he, hb⟩
end Go.Proofs.YtfhldpdnoaoohaaDoor

namespace Go.Proofs.YtfhldpdnoaoohaaDoor
open Go.RowKit

/-- A row of small numbers that the call itself laid, marked as a string's. -/
theorem sliceB_lit (w : World) (l : List Int) (C : Array Value) (fr : Nat × Nat) (hC : C = (l.map fun x => Value.int .u8 x).toArray) (hl : l.length < 100) (hb : ∀ x ∈ l, 0 ≤ x ∧ x < 256) :
    SliceB (w.alloc (.cells C 5 fr)) (.slice (some ⟨w.heap.size, 0, none⟩) l.length l.length) l.length (fl l) := by
  refine ⟨⟨_, _, rfl, Nat.le_refl _, by omega, fun _ => ⟨_, _, rfl, by simp, fun j hj => ?_⟩⟩, fun j hj => ?_⟩
  · rw [cell_of_row _ _ _ C 5 fr (heap_alloc_new _ _), hC]
    simp [fl, hj]
  · have : fl l j ∈ l := by simp [fl, hj]
    exact hb _ this

theorem size5' : ∀ W, (sizeOf 5).run Tryd.prog W = .ok 1 W := by intro W; simp [go_sem]
/-- A piece of a []byte. -/
theorem SliceB.sub {w : World} {a : Option Addr} {len cap : Nat} {p : Nat → Int} (hv : SliceB w (.slice a len cap) len p) (l h : Nat) (h1 : l ≤ h) (h2 : h ≤ len) :
    SliceB w (sliced a l h cap 1) (h - l) (fun j => p (l + j)) := by
  obtain ⟨⟨a', cap', e, e1, e2, e3⟩, hp⟩ := hv
  obtain ⟨rfl, _, rfl⟩ : a = a' ∧ len = len ∧ cap = cap' := by
    injection e with x y z
    exact ⟨x, rfl, z⟩
  refine ⟨⟨_, cap - l, rfl, by omega, by omega, fun h0 => ?_⟩, fun j hj => hp (l + j) (by omega)⟩
  obtain ⟨b, off, rfl, hb, hc⟩ := e3 (by omega)
  rw [if_neg (by omega)]
  refine ⟨b, off + l, ?_, hb, fun j hj => ?_⟩
  · simp [Addr.add_mid]
  · rw [Nat.add_assoc]; exact hc (l + j) (by omega)
theorem slice_lh (a : Option Addr) (len cap l h : Nat) (h1 : l ≤ h) (h2 : h ≤ cap) (W : World) : (Instr.sliceAt 24 (.slice a len cap) (some (.int .i64 (l : Int))) (some (.int .i64 (h : Int))) none).run Tryd.prog W = .ok (sliced a l h cap 1) W := by
  have e1 : (l : Int) ≤ h := by omega
  have e2 : (h : Int) ≤ cap := by omega
  simp [Instr.sliceAt, Instr.slice, run_underlying Tryd.underlying24, Instr.sliceBounds, run_sliceBound, sliced, h1, h2]
theorem slice_h (a : Option Addr) (len cap h : Nat) (h2 : h ≤ cap) (W : World) : (Instr.sliceAt 24 (.slice a len cap) none (some (.int .i64 (h : Int))) none).run Tryd.prog W = .ok (sliced a 0 h cap 1) W := by
  have e2 : (h : Int) ≤ cap := by omega
  simp [Instr.sliceAt, Instr.slice, run_underlying Tryd.underlying24, Instr.sliceBounds, run_sliceBound, sliced, h2]
theorem slice_l (a : Option Addr) (len cap l : Nat) (h1 : l ≤ len) (W : World) : (Instr.sliceAt 24 (.slice a len cap) (some (.int .i64 (l : Int))) none none).run Tryd.prog W = .ok (sliced a l len cap 1) W := by
  have e1 : (l : Int) ≤ len := by omega
  simp [Instr.sliceAt, Instr.slice, run_underlying Tryd.underlying24, Instr.sliceBounds, run_sliceBound, sliced, h1]

theorem exec_slice_lh {o : Oper} {a : Act} {w : World} {x l h : Operand} {v vl vh r : Value} (ho : o.op = .slice 24 x (some l) (some h) none) (hx : a.eval x = v) (hl : a.eval l = vl) (hh : a.eval h = vh)
    (hr : (Instr.sliceAt 24 v (some vl) (some vh) none).run Tryd.prog w = .ok r w) : (execOp a.eval o).run Tryd.prog w = .ok (.value r) w := by
  unfold execOp
  simp only [ho, hx, hl, hh, Option.map_some, Option.map_none, Sem.run_bind, hr, Result.andThen_ok, Sem.run_pure]
theorem exec_slice_h {o : Oper} {a : Act} {w : World} {x h : Operand} {v vh r : Value} (ho : o.op = .slice 24 x none (some h) none) (hx : a.eval x = v) (hh : a.eval h = vh)
    (hr : (Instr.sliceAt 24 v none (some vh) none).run Tryd.prog w = .ok r w) : (execOp a.eval o).run Tryd.prog w = .ok (.value r) w := by
  unfold execOp
  simp only [ho, hx, hh, Option.map_some, Option.map_none, Sem.run_bind, hr, Result.andThen_ok, Sem.run_pure]
theorem exec_slice_l {o : Oper} {a : Act} {w : World} {x l : Operand} {v vl r : Value} (ho : o.op = .slice 24 x (some l) none none) (hx : a.eval x = v) (hl : a.eval l = vl)
    (hr : (Instr.sliceAt 24 v (some vl) none none).run Tryd.prog w = .ok r w) : (execOp a.eval o).run Tryd.prog w = .ok (.value r) w := by
  unfold execOp
  simp only [ho, hx, hl, Option.map_some, Option.map_none, Sem.run_bind, hr, Result.andThen_ok, Sem.run_pure]

/-- A [][]byte. -/
structure ListsB (w : World) (v : Value) (n : Nat) (vs : Nat → Value) (ls : Nat → Nat) (ps : Nat → Nat → Int) : Prop where
  shape : ∃ a cap, v = .slice a n cap ∧ n < 1152921504606846976 ∧ (0 < n → ∃ b off, a = some ⟨b, off, none⟩ ∧ b < w.heap.size ∧ ∀ i, i < n → w.cell? ⟨b, off + i, none⟩ = some (vs i))
  each : ∀ i, i < n → SliceB w (vs i) (ls i) (ps i)
  nils : ∀ i, i < n → ∀ cap, vs i = .slice none (ls i) cap → cap = 0
  small : ∀ i, i < n → ls i + 4000 ≤ 140737488355328

theorem conv_str {w : World} {v : Value} {l : Nat} {p : Nat → Int} (h : SliceB w v l p) : (convert 24 9 v).run Tryd.prog w = .ok (.string (strOfNums (firstL p l))) w := by
  obtain ⟨⟨a, cap, rfl, h1, h2, h3⟩, hp⟩ := h
  by_cases h0 : 0 < l
  · obtain ⟨b, off, rfl, _, hc⟩ := h3 h0
    refine run_convert_bytes_arg w 24 5 Tryd.underlying24 Tryd.underlying5 b off l cap (firstL p l) (by simp [firstL]) (fun i hi => ?_) 9 Tryd.underlying9
    rw [hc i hi]
    simp [firstL, hi]
  · obtain rfl : l = 0 := by omega
    cases a with
    | none => exact run_convert_bytes_nil w 24 5 Tryd.underlying24 Tryd.underlying5 0 cap 9 Tryd.underlying9
    | some ad =>
      have hl : (loadCells ad 0).run Tryd.prog w = .ok (([] : List Int).map (Value.int .u8)).toArray w := by simpa using run_loadCells_list (P := Tryd.prog) w ad [] (by simp)
      rw [run_convert_bytes_string w 24 9 5 _ 0 cap Tryd.underlying24 Tryd.underlying5 Tryd.underlying9, run_bytesToString w _ 0 cap [] hl]
      rfl
theorem exec_conv_str {o : Oper} {a : Act} {w : World} {x : Operand} {v : Value} {l : Nat} {p : Nat → Int} (ho : o.op = .convert 24 9 x) (hx : a.eval x = v) (h : SliceB w v l p) : (execOp a.eval o).run Tryd.prog w = .ok (.value (.string (strOfNums (firstL p l)))) w := by
  unfold execOp
  simp only [ho, hx, Sem.run_bind, conv_str h, Result.andThen_ok, Sem.run_pure]
theorem exec_neq_str {o : Oper} {a : Act} {w : World} {x y : Operand} {s : ByteArray} (ho : o.op = .binOp .neq 9 x y 9) (hx : a.eval x = .string s) (hy : a.eval y = .string s) : (execOp a.eval o).run Tryd.prog w = .ok (.value (.bool false)) w := by
  unfold execOp
  simp only [ho, hx, hy]
  simp [go_sem]
theorem exec_load33 {o : Oper} {a : Act} {w : World} {x : Operand} {b f : Nat} {v : Value} (ho : o.op = .load 24 x) (hx : a.eval x = .pointer (some ⟨b, f, none⟩)) (hc : w.cell? ⟨b, f, none⟩ = some v) : (execOp a.eval o).run Tryd.prog w = .ok (.value v) w := by
  unfold execOp
  simp only [ho, hx]
  simp [go_sem, hc]
theorem exec_load5 {o : Oper} {a : Act} {w : World} {x : Operand} {b f : Nat} {v : Value} (ho : o.op = .load 5 x) (hx : a.eval x = .pointer (some ⟨b, f, none⟩)) (hc : w.cell? ⟨b, f, none⟩ = some v) : (execOp a.eval o).run Tryd.prog w = .ok (.value v) w := by
  unfold execOp
  simp only [ho, hx]
  simp [go_sem, hc]
theorem own_cap {W : World} {B n m g cap : Nat} {xs : List Value} (h : W.ownsRow B 5 1 (.slice (some ⟨g, 0, none⟩) m cap) n xs) : n ≤ cap := by
  rcases h.2 with ⟨e, _⟩ | ⟨g', cap', cur, e, _, _, hn, _⟩
  · cases e
  · cases e
    exact hn
theorem own_max {W : World} {B n m g cap : Nat} {xs : List Value} (h : W.ownsRow B 5 1 (.slice (some ⟨g, 0, none⟩) m cap) n xs) : cap ≤ maxLen := by
  rcases h.2 with ⟨e, _⟩ | ⟨g', cap', cur, e, _, _, _, hn, _⟩
  · cases e
  · cases e
    exact hn
/-- m bytes of p turned. -/
def px (p : Nat → Int) (m : Nat) : Nat → Int := fun j => if j < m then bits .xor .u8 (p j) 85 else p j
theorem px_bd (p : Nat → Int) (m l : Nat) (h : ∀ j, j < l → 0 ≤ p j ∧ p j < 256) (j : Nat) (hj : j < l) : 0 ≤ px p m j ∧ px p m j < 256 := by
  unfold px
  split
  · have e : ∀ x : Int, 0 ≤ IntKind.u8.wrap x ∧ IntKind.u8.wrap x < 256 := fun x => by simp [IntKind.wrap, IntKind.bits, IntKind.signed]; omega
    exact e _
  · exact h j hj
theorem src_two (W : World) (x y : Int) : ∀ j u, (vals [x, y])[j]? = some u → (W.alloc (.cells #[.int .u8 x, .int .u8 y] 5)).cell? ((⟨W.heap.size, 0, none⟩ : Addr).add j) = some u := by
  intro j u hu
  rw [Addr.add_mid, cell_of_row _ _ _ _ _ _ (heap_alloc_new W _)]
  simpa [vals] using hu
theorem slice_p (g l m cp : Nat) (h : l ≤ cp) (W : World) : (Instr.sliceAt 24 (.slice (some ⟨g, 0, none⟩) m cp) none (some (.int .i64 (l : Int))) none).run Tryd.prog W = .ok (.slice (some ⟨g, 0, none⟩) l cp) W := by
  rw [slice_h _ _ _ _ h]
  unfold sliced
  by_cases e : cp = 0
  · simp [e]
  · simp [e, Addr.add_mid]

end Go.Proofs.YtfhldpdnoaoohaaDoor
