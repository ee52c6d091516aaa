import Derived.Test.YtaiiomoajjhliaaDoorM4
import Derived.Deep.Onto
import Derived.Test.YtaiiomoajjhliaaDoorA7
import Derived.Test.YtaiiomoajjhliaaDoorK7
import Derived.Deep.DeepCutAuto
import Derived.Deep.CutBlock
namespace Go.Proofs.YtaiiomoajjhliaaDoor
open Go.RowKit

/-- HMAC. -/
def tagV (pk : Nat → Int) (lk : Nat) (pm : Nat → Int) (lm : Nat) : Nat → Int := tagD (addN (inS pk lk) pm lm) (outS pk lk)

set_option maxHeartbeats 400000 in
theorem mtag_any (vk vm : Value) (lk lm : Nat) (pk pm : Nat → Int) (w : World) (hG : Glob w) (hk : lk < 1152921504606846976) (hm : lm + 64 < 1152921504606846976) (h1 : SliceB w vk lk pk) (h2 : SliceB w vm lm pm) :
    Calls Tryd.prog 33 #[vk, vm] w fun e w' => e = .returned (.agg (tab8 32 (tagV pk lk pm lm))) ∧ Below w.heap.size w w' := by
  obtain ⟨am, cm, rfl, hx⟩ := h2.shape
  clear hx
  have HG : Hid (_) := hG
  have HK : Hid (_) := hk
  have HM : Hid (_) := hm
  have H1 : Hid (_) := h1
  have H2 : Hid (_) := h2
  clear hG hk hm h1 h2
  have z28 := zero28
  go_enter Tryd.func33, Tryd.ntmps33
  go_wp2_with fail
  have B0 : Hid (Below w.heap.size w (w.alloc (.cells (tab8 32 (fun _ => 0)) 47))) := (Below.refl _ _).alloc (Nat.le_refl _) _
  refine (keyedBy_any vk lk pk _ (HG.out.below B0.out HG.out.sz) HK.out (H1.out.below B0.out)).mono ?_
  rintro e w1 ⟨rfl, hb1⟩
  have B1 : Hid (Below (w.heap.size + 1) (w.alloc (.cells (tab8 32 (fun _ => 0)) 47)) w1) := by
    have hsz : (w.alloc (.cells (tab8 32 (fun _ => 0)) 47)).heap.size = w.heap.size + 1 := by simp
    rw [← hsz]; exact hb1
  have R0 : Hid (w1.heap[w.heap.size]? = some (.cells (tab8 32 (fun _ => 0)) 47)) := by rw [B1.out.block _ (by omega)]; exact heap_alloc_new _ _
  have W1 : Hid (Below w.heap.size w w1) := B0.out.trans (B1.out.mono (by omega))
  clear hb1 B0 B1 z28
  go_wp2_with fail
  have wb : Below w.heap.size w (w1.alloc (.cells #[.slice am lm cm] 24)) := W1.out.alloc W1.out.size _
  have hp : Pieces (w1.alloc (.cells #[.slice am lm cm] 24)) (.slice (some ⟨w1.heap.size, 0, none⟩) 1 1) 1 (fun _ => lm) (fun _ => pm) :=
    ⟨w1.heap.size, 0, 1, fun _ => .slice am lm cm, rfl, by simp, by omega, fun i hi => by
      obtain rfl : i = 0 := by omega
      exact ⟨by rw [cell_of_row _ _ _ _ _ _ (heap_alloc_new w1 _)]; rfl, H2.out.below wb⟩⟩
  refine (tag_any (inS pk lk) (outS pk lk) _ 1 (fun _ => lm) (fun _ => pm) _ (HG.out.below wb HG.out.sz) (ok_inS _ _) (ok_outS _ _) (outS_n _ _) (by rw [inS_n]; have := HM.out; simp only [totL]; omega) hp).mono ?_
  rintro e w2 ⟨rfl, hb2⟩
  have sz : w.heap.size < w1.heap.size := (Array.getElem?_eq_some_iff.1 R0.out).1
  have R1 : Hid (w2.heap[w.heap.size]? = some (.cells (tab8 32 (fun _ => 0)) 47)) := by
    rw [hb2.block _ (by simp; omega), Below.heap_alloc _ _ _ sz]; exact R0.out
  have W2 : Hid (Below w.heap.size w w2) := wb.trans (hb2.mono wb.size)
  clear hb2 hp wb sz R0 W1
  go_wp2_with (first
    | (refine isStore 47 (.tmp 4) (.tmp 9) rfl ?_; go_must (refine wpList_store_row rfl 47 (.tmp 4) (.tmp 9) rfl w.heap.size _ rfl rfl 47 _ R1.out (size28' _) (by simp only [tab8_size]) (tab8_one _ _) ?_)))
  refine bodyPost_ret (v := .agg (tab8 32 (tagV pk lk pm lm))) (results_cell_row Tryd.results33 _ _ w.heap.size 47 _ (0, 0) _ rfl (setRow_heap _ _ _ _ _ _ R1.out) Tryd.underlying47 rfl (size28' _)) rfl ⟨rfl, ?_⟩
  exact below_setRow W2.out (Nat.le_refl _) _

set_option maxHeartbeats 400000 in
theorem mextract_any (vk vm : Value) (lk lm : Nat) (pk pm : Nat → Int) (w : World) (hG : Glob w) (hk : lk < 1152921504606846976) (hm : lm + 64 < 1152921504606846976) (h1 : SliceB w vk lk pk) (h2 : SliceB w vm lm pm) :
    Calls Tryd.prog 22 #[vk, vm] w fun e w' => e = .returned (.agg (tab8 32 (tagV pk lk pm lm))) ∧ Below w.heap.size w w' := by
  have HG : Hid (_) := hG
  have HK : Hid (_) := hk
  have HM : Hid (_) := hm
  have H1 : Hid (_) := h1
  have H2 : Hid (_) := h2
  clear hG hk hm h1 h2
  have z28 := zero28
  go_enter Tryd.func22, Tryd.ntmps22
  go_wp2_with fail
  have B0 : Hid (Below w.heap.size w (w.alloc (.cells (tab8 32 (fun _ => 0)) 47))) := (Below.refl _ _).alloc (Nat.le_refl _) _
  refine (mtag_any vk vm lk lm pk pm _ (HG.out.below B0.out HG.out.sz) HK.out HM.out (H1.out.below B0.out) (H2.out.below B0.out)).mono ?_
  rintro e w1 ⟨rfl, hb1⟩
  have B1 : Hid (Below (w.heap.size + 1) (w.alloc (.cells (tab8 32 (fun _ => 0)) 47)) w1) := by
    have hsz : (w.alloc (.cells (tab8 32 (fun _ => 0)) 47)).heap.size = w.heap.size + 1 := by simp
    rw [← hsz]; exact hb1
  have R0 : Hid (w1.heap[w.heap.size]? = some (.cells (tab8 32 (fun _ => 0)) 47)) := by rw [B1.out.block _ (by omega)]; exact heap_alloc_new _ _
  have W1 : Hid (Below w.heap.size w w1) := B0.out.trans (B1.out.mono (by omega))
  clear hb1 B0 B1 z28
  go_wp2_with (first
    | (refine isStore 47 (.tmp 4) (.tmp 7) rfl ?_; go_must (refine wpList_store_row rfl 47 (.tmp 4) (.tmp 7) rfl w.heap.size _ rfl rfl 47 _ R0.out (size28' _) (by simp only [tab8_size]) (tab8_one _ _) ?_)))
  refine bodyPost_ret (v := .agg (tab8 32 (tagV pk lk pm lm))) (results_cell_row Tryd.results22 _ _ w.heap.size 47 _ (0, 0) _ rfl (setRow_heap _ _ _ _ _ _ R0.out) Tryd.underlying47 rfl (size28' _)) rfl ⟨rfl, ?_⟩
  exact below_setRow W1.out (Nat.le_refl _) _

/-- The bytes as a string. -/
def strP (p : Nat → Int) (l : Nat) : ByteArray := strOfNums (firstL p l)
theorem conv_strP {w : World} {v : Value} {l : Nat} {p : Nat → Int} (h : SliceB w v l p) : (convert 24 9 v).run Tryd.prog w = .ok (.string (strP p l)) w := conv_str h

theorem bequal_any (vk vm : Value) (lk lm : Nat) (pk pm : Nat → Int) (w : World) (h1 : SliceB w vk lk pk) (h2 : SliceB w vm lm pm) :
    Calls Tryd.prog 51 #[vk, vm] w fun e w' => e = .returned (.bool ((strP pk lk).toList == (strP pm lm).toList)) ∧ w' = w := by
  have c1 := conv_strP h1
  have c2 := conv_strP h2
  clear h1 h2
  go_enter Tryd.func51, Tryd.ntmps51
  go_wp2
  go_ret
  exact ⟨rfl, rfl⟩
theorem mequal_any (vk vm : Value) (lk lm : Nat) (pk pm : Nat → Int) (w : World) (h1 : SliceB w vk lk pk) (h2 : SliceB w vm lm pm) :
    Calls Tryd.prog 38 #[vk, vm] w fun e w' => e = .returned (.bool ((strP pk lk).toList == (strP pm lm).toList)) ∧ w' = w := by
  have H1 : Hid (_) := h1
  have H2 : Hid (_) := h2
  clear h1 h2
  go_enter Tryd.func38, Tryd.ntmps38
  go_wp2_with fail
  refine (bequal_any vk vm lk lm pk pm _ H1.out H2.out).mono ?_
  rintro e w1 ⟨rfl, rfl⟩
  go_wp2
  go_ret
  exact ⟨rfl, rfl⟩
end Go.Proofs.YtaiiomoajjhliaaDoor

namespace Go.Proofs.YtaiiomoajjhliaaDoor
open Go.RowKit

theorem firstL_len (f : Nat → Int) (k : Nat) : (firstL f k).length = k := by simp [firstL]
theorem firstL_congr {f g : Nat → Int} {k : Nat} (h : ∀ i, i < k → f i = g i) : firstL f k = firstL g k := by
  unfold firstL
  apply List.map_congr_left
  intro i hi
  exact h i (List.mem_range.1 hi)
theorem firstL_get {f : Nat → Int} {k j : Nat} (h : j < k) : (vals (firstL f k))[j]? = some (.int .u8 (f j)) := by simp [vals, firstL, h]
theorem own_below {W W' : World} {B n : Nat} {v : Value} {xs : List Value} (h : W.ownsRow B 5 1 v n xs) (hb : Below W.heap.size W W') : W'.ownsRow B 5 1 v n xs := by
  refine ⟨h.1, ?_⟩
  rcases h.2 with h0 | ⟨g, cap, cur, e, h1, hg, h2⟩
  · exact Or.inl h0
  · exact Or.inr ⟨g, cap, cur, e, h1, by rw [hb.block _ (Array.getElem?_eq_some_iff.1 hg).1]; exact hg, h2⟩
/-- One cell of a []byte. -/
theorem SliceB.cell {w W : World} {a : Option Addr} {len cap : Nat} {p : Nat → Int} (h : SliceB w (.slice a len cap) len p) (hb : Below w.heap.size w W) (k : Nat) (hk : k < len) : ∃ b off, a = some ⟨b, off, none⟩ ∧ W.cell? ⟨b, off + k, none⟩ = some (.int .u8 (p k)) := by
  obtain ⟨⟨a', cap', e, _, _, e3⟩, _⟩ := h
  cases e
  obtain ⟨b, off, rfl, hl, hc⟩ := e3 (by omega)
  exact ⟨b, off, rfl, by rw [below_cell hb hl]; exact hc k hk⟩

end Go.Proofs.YtaiiomoajjhliaaDoor

namespace Go.Proofs.YtaiiomoajjhliaaDoor
open Go.RowKit

/-- One list behind the other. -/
def cat (f : Nat → Int) (n : Nat) (g : Nat → Int) : Nat → Int := fun i => if i < n then f i else g (i - n)
theorem firstL_cat (f : Nat → Int) (n : Nat) (g : Nat → Int) (m : Nat) : firstL f n ++ firstL g m = firstL (cat f n g) (n + m) := by
  unfold firstL
  rw [List.range_add, List.map_append, List.map_map]
  congr 1
  · apply List.map_congr_left
    intro i hi
    simp [cat, List.mem_range.1 hi]
  · apply List.map_congr_left
    intro i _
    simp [cat]
    omega
/-- What append asks of its source. -/
theorem src_of {W : World} {ao : Option Addr} {l c : Nat} {p : Nat → Int} (h : SliceB W (.slice ao l c) l p) (hn : ao = none → c = 0) :
    (ao = none ∧ l = 0 ∧ c = 0) ∨ ∃ ad, ao = some ad ∧ ∀ j u, (vals (firstL p l))[j]? = some u → W.cell? (ad.add j) = some u := by
  obtain ⟨⟨a', c', e, h1, _, h3⟩, _⟩ := h
  cases e
  cases ao with
  | none => exact Or.inl ⟨rfl, by have := hn rfl; omega, hn rfl⟩
  | some ad =>
    refine Or.inr ⟨ad, rfl, fun j u hu => ?_⟩
    have hj : j < l := by have := (List.getElem?_eq_some_iff.1 hu).1; simpa [vals, firstL] using this
    obtain ⟨b, off, e, _, hc⟩ := h3 (by omega)
    cases e
    rw [Addr.add_mid, hc j hj]
    rw [firstL_get hj] at hu
    exact hu

end Go.Proofs.YtaiiomoajjhliaaDoor

namespace Go.Proofs.YtaiiomoajjhliaaDoor
open Go.RowKit

theorem made8 (n : Nat) : madeCells (Value.int .u8 0).cells n = tab8 n (fun _ => 0) := by
  apply Array.ext_getElem?
  intro i
  by_cases h : i < n
  · rw [tab8_get n _ i h]; simp [madeCells, Value.cells, h, Nat.mod_one]
  · rw [Array.getElem?_eq_none (by simp [madeCells]; omega), Array.getElem?_eq_none (by rw [tab8_size]; omega)]
/-- append, and all that it leaves. -/
theorem wpList_appG {ops : Array Oper} {rest : List Oper} {o : Oper} {a : Act} {W : World} {Q : Exit → Act → World → Prop} {B n m c : Nat} {v : Value} {l r : List Int} {ao : Option Addr} (hgd : o.guard = none) (s x : Operand)
    (ho : o.op = .call { callee := .builtin .append, args := #[s, x], argTypes := #[24, 24] })
    (hs : a.eval s = v) (hx : a.eval x = .slice ao m c) (hown : W.ownsRow B 5 1 v n (vals l)) (hr : r.length = m)
    (hsrc : (ao = none ∧ m = 0 ∧ c = 0) ∨ ∃ ad, ao = some ad ∧ ∀ j u, (vals r)[j]? = some u → W.cell? (ad.add j) = some u)
    (hbig : n + m ≤ 140737488355328) (hB : B ≤ W.heap.size)
    (h : ∀ v' W', W'.ownsRow B 5 1 v' (n + m) (vals (l ++ r)) → W.grownBy W' v.ownBlock → wpList Tryd.prog ops Q rest (a.put o.dst v') W') : wpList Tryd.prog ops Q (o :: rest) a W := by
  obtain ⟨i, h1, h2, h3, h4⟩ := info5
  rcases hsrc with ⟨rfl, rfl, rfl⟩ | ⟨ad, rfl, hsrc⟩
  · obtain rfl : r = [] := List.eq_nil_of_length_eq_zero hr
    refine wpList_append_own_none hgd s x 24 ho B 5 i 1 Tryd.underlying24 h1 v n (vals l) hs hown hx ?_
    exact h v W (by simpa using hown) ⟨rfl, rfl, rfl, Nat.le_refl _, fun _ _ _ => rfl⟩
  · refine wpList_append_own W hgd s x 24 ho B 5 i (.int .u8 0) 1 1 Tryd.underlying24 h1 h2 h3 h4 rfl (by decide) v n (vals l) hs hown ad m c (vals r) hx (by rw [vals_len]; omega) hsrc (vals_one r) (by unfold maxLen; omega) (by omega) hB ?_
    intro v' W' hown' hg _
    rw [vals_append] at hown'
    exact h v' W' hown' hg
end Go.Proofs.YtaiiomoajjhliaaDoor
