import Derived.Test.YtaiiomoajjhliaaDoorB2
import Derived.Test.YtaiiomoajjhliaaDoorB1
import Derived.Test.YtaiiomoajjhliaaDoorX7b
import Derived.Laws.AppendOwnNone
import Derived.Test.YtaiiomoajjhliaaDoorA7
import Derived.Laws.BytesArg
import Derived.Lib.SlBytesConst
namespace Go.Proofs.YtaiiomoajjhliaaDoor
open Go.RowKit

/-- A []byte of len bytes p. -/
structure SliceB (w : World) (v : Value) (len : Nat) (p : Nat → Int) : Prop where
  shape : ∃ a cap, v = .slice a len cap ∧ len ≤ cap ∧ cap < 9223372036854775808 ∧ (0 < len → ∃ b off, a = some ⟨b, off, none⟩ ∧ b < w.heap.size ∧ ∀ j, j < len → w.cell? ⟨b, off + j, none⟩ = some (.int .u8 (p j)))
  bytes : ∀ j, j < len → 0 ≤ p j ∧ p j < 256
theorem SliceB.below {w w' : World} {v : Value} {len : Nat} {p : Nat → Int} (h : SliceB w v len p) (hb : Below w.heap.size w w') : SliceB w' v len p := by
  obtain ⟨⟨a, cap, e, h1, h2, h3⟩, hp⟩ := h
  refine ⟨⟨a, cap, e, h1, h2, fun h0 => ?_⟩, hp⟩
  obtain ⟨b, off, e1, e2, e3⟩ := h3 h0
  exact ⟨b, off, e1, Nat.lt_of_lt_of_le e2 hb.size, fun j hj => by rw [below_cell hb e2]; exact e3 j hj⟩

theorem add_any (s : HS) (v : Value) (len : Nat) (p : Nat → Int) (w : World) (hG : Glob w) (hs : s.ok) (hbig : s.n + len < 1152921504606846976) (hv : SliceB w v len p) :
    Calls Tryd.prog 48 #[.agg s.cells, v] w fun e w' => e = .returned (.agg (addN s p len).cells) ∧ Below w.heap.size w w' := by
  obtain ⟨⟨a, cap, rfl, h1, h2, h3⟩, hp⟩ := hv
  by_cases h0 : 0 < len
  · obtain ⟨b, off, rfl, e2, e3⟩ := h3 h0
    exact add_some s b off len cap p w hG hs h1 hbig e2 e3 hp
  · obtain rfl : len = 0 := by omega
    exact add_none s a cap w

set_option maxHeartbeats 400000 in
theorem sum_any (v : Value) (len : Nat) (p : Nat → Int) (w : World) (hG : Glob w) (hbig : len < 1152921504606846976) (hv : SliceB w v len p) :
    Calls Tryd.prog 54 #[v] w fun e w' => e = .returned (.agg (tab8 32 (sumD (addN HS.new p len)))) ∧ Below w.heap.size w w' := by
  have HG : Hid (_) := hG
  have HV : Hid (_) := hv
  have HB : Hid (_) := hbig
  clear hG hv hbig
  have z28 := zero28
  go_enter Tryd.func54, Tryd.ntmps54
  go_wp2_with fail
  clear z28
  have b0 : Hid (Below w.heap.size w (w.alloc (.cells (tab8 32 (fun _ => 0)) 47))) := (Below.refl _ _).alloc (Nat.le_refl _) _
  refine (new_any _).mono ?_
  rintro e w1 ⟨rfl, hb1⟩
  have B1 : Hid (Below (w.heap.size + 1) (w.alloc (.cells (tab8 32 (fun _ => 0)) 47)) w1) := by
    have hsz : (w.alloc (.cells (tab8 32 (fun _ => 0)) 47)).heap.size = w.heap.size + 1 := by simp
    rw [← hsz]; exact hb1
  clear hb1
  have s1 : Hid (w.heap.size + 1 ≤ w1.heap.size) := by
    show w.heap.size + 1 ≤ w1.heap.size
    have := B1.out.size
    simpa using this
  have c1 : Hid (Below w.heap.size w w1) := b0.out.trans (B1.out.mono (by omega))
  go_wp2_with fail
  refine (add_any HS.new v len p _ (HG.out.below c1.out HG.out.sz) ok_new (by simpa [HS.new] using HB.out) (HV.out.below c1.out)).mono ?_
  rintro e w2 ⟨rfl, hb2⟩
  have B2 : Hid (Below (w.heap.size + 1) w1 w2) := hb2.mono s1.out
  clear hb2
  go_wp2_with fail
  refine (hsum_any _ _ (HG.out.below (c1.out.trans (B2.out.mono (by omega))) HG.out.sz) (ok_addN ok_new HV.out.bytes)).mono ?_
  rintro e w3 ⟨rfl, hb3⟩
  have B3 : Hid (Below (w.heap.size + 1) w2 w3) := hb3.mono (Nat.le_trans s1.out B2.out.size)
  clear hb3
  have r3 : Hid (w3.heap[w.heap.size]? = some (.cells (tab8 32 (fun _ => 0)) 47)) := by
    rw [B3.out.block _ (by omega), B2.out.block _ (by omega), B1.out.block _ (by omega)]; exact heap_alloc_new _ _
  have c3 : Hid (Below w.heap.size w w3) := (c1.out.trans (B2.out.mono (by omega))).trans (B3.out.mono (by omega))
  clear B1 B2 B3 s1 c1 b0 HG HV HB
  go_wp2_with (first
    | (refine isStore 47 (.tmp 2) (.tmp 6) rfl ?_; refine wpList_store_row rfl 47 (.tmp 2) (.tmp 6) rfl w.heap.size _ rfl rfl 47 _ r3.out (size28' _) (by simp only [tab8_size]) (tab8_one _ _) ?_))
  refine bodyPost_ret (v := .agg (tab8 32 (sumD (addN HS.new p len)))) (results_cell_row Tryd.results54 _ _ w.heap.size 47 _ (0, 0) _ rfl (setRow_heap _ _ _ _ _ _ r3.out) Tryd.underlying47 rfl (size28' _)) rfl ⟨rfl, ?_⟩
  exact below_setRow c3.out (Nat.le_refl _) _
end Go.Proofs.YtaiiomoajjhliaaDoor

namespace Go.Proofs.YtaiiomoajjhliaaDoor
open Go.RowKit

/-- The blocks in the second part. -/
def WC (w W : World) (C : Nat) (s k f v : Nat → Int) : Prop :=
  W.heap[w.heap.size]? = some (.cells (tab32 8 s) 55) ∧ W.heap[w.heap.size + 1]? = some (.cells (tab32 64 k) 96) ∧ W.heap[w.heap.size + 2]? = some (.cells (tab32 8 fun _ => 0) 55) ∧ W.heap[w.heap.size + 3]? = some (.cells (tab32 64 f) 96) ∧ W.heap[C]? = some (.cells (tab32 8 v) 55) ∧ w.heap.size + 3 < C ∧ Below w.heap.size w W
theorem WC.drewN {w W : World} {C : Nat} {s k f v : Nat → Int} (h : WC w W C s k f v) (n : Nat) : WC w (W.drewN n) C s k f v :=
  ⟨h.1, h.2.1, h.2.2.1, h.2.2.2.1, h.2.2.2.2.1, h.2.2.2.2.2.1, below_drewN h.2.2.2.2.2.2 n⟩
theorem WC.drew {w W : World} {C : Nat} {s k f v : Nat → Int} (h : WC w W C s k f v) : WC w W.drew C s k f v := h.drewN 1
theorem WC.cv {w W : World} {C : Nat} {s k f v : Nat → Int} (h : WC w W C s k f v) (i : Nat) (hi : i < 8) : W.cell? ⟨C, i, none⟩ = some (.int .u32 (v i)) := by
  rw [cell_of_row _ _ _ _ _ _ h.2.2.2.2.1]; exact tab32_get 8 v i hi
theorem WC.cs {w W : World} {C : Nat} {s k f v : Nat → Int} (h : WC w W C s k f v) (i : Nat) (hi : i < 8) : W.cell? ⟨w.heap.size, i, none⟩ = some (.int .u32 (s i)) ∧ W.frozen? ⟨w.heap.size, i, none⟩ = false :=
  ⟨by rw [cell_of_row _ _ _ _ _ _ h.1]; exact tab32_get 8 s i hi, frozen_of_row h.1⟩
theorem WC.ck {w W : World} {C : Nat} {s k f v : Nat → Int} (h : WC w W C s k f v) (i : Nat) (hi : i < 64) : W.cell? ⟨w.heap.size + 1, i, none⟩ = some (.int .u32 (k i)) := by
  rw [cell_of_row _ _ _ _ _ _ h.2.1]; exact tab32_get 64 k i hi
/-- The blocks in the first part. -/
def WB (w W : World) (s k f : Nat → Int) : Prop :=
  W.heap[w.heap.size]? = some (.cells (tab32 8 s) 55) ∧ W.heap[w.heap.size + 1]? = some (.cells (tab32 64 k) 96) ∧ W.heap[w.heap.size + 2]? = some (.cells (tab32 8 fun _ => 0) 55) ∧ W.heap[w.heap.size + 3]? = some (.cells (tab32 64 f) 96) ∧ Below w.heap.size w W
theorem WB.drew {w W : World} {s k f : Nat → Int} (h : WB w W s k f) : WB w W.drew s k f := ⟨h.1, h.2.1, h.2.2.1, h.2.2.2.1, h.2.2.2.2.drew⟩
theorem WB.drewN {w W : World} {s k f : Nat → Int} (h : WB w W s k f) (n : Nat) : WB w (W.drewN n) s k f := ⟨h.1, h.2.1, h.2.2.1, h.2.2.2.1, below_drewN h.2.2.2.2 n⟩
theorem WB.set {w W : World} {s k f : Nat → Int} (h : WB w W s k f) (t : Nat) (v : Int) : WB w (W.setCell ⟨w.heap.size + 3, t, none⟩ (.int .u32 v)) s k (upd f t v) := by
  obtain ⟨h1, h2, h3, h4, h5⟩ := h
  refine ⟨?_, ?_, ?_, ?_, h5.setCell (by simp) _⟩
  · rw [Below.heap_setCell _ _ _ _ (by simp)]; exact h1
  · rw [Below.heap_setCell _ _ _ _ (by simp)]; exact h2
  · rw [Below.heap_setCell _ _ _ _ (by simp)]; exact h3
  · rw [heap_setCell_row _ h4, tab32_set]
theorem WB.cell {w W : World} {s k f : Nat → Int} (h : WB w W s k f) (t : Nat) (ht : t < 64) : W.cell? ⟨w.heap.size + 3, t, none⟩ = some (.int .u32 (f t)) ∧ W.frozen? ⟨w.heap.size + 3, t, none⟩ = false :=
  ⟨by rw [cell_of_row _ _ _ _ _ _ h.2.2.2.1]; exact tab32_get 64 f t ht, frozen_of_row h.2.2.2.1⟩
theorem WB.start (w : World) (s k q : Nat → Int) : WB w ((((w.alloc (.cells (tab32 8 s) 55)).alloc (.cells (tab32 64 k) 96)).alloc (.cells (tab32 8 fun _ => 0) 55)).alloc (.cells (tab32 64 (sch1 q 0)) 96)) s k (sch1 q 0) := by
  have h := heap3 w (.cells (tab32 8 s) 55) (.cells (tab32 64 k) 96) (.cells (tab32 8 fun _ => 0) 55) 0
  refine ⟨?_, ?_, ?_, ?_, (below3 w (.cells (tab32 8 s) 55) (.cells (tab32 64 k) 96) (.cells (tab32 8 fun _ => 0) 55) 0).alloc (by simp; omega) _⟩
  · rw [Below.heap_alloc _ _ _ (by simp; omega)]; exact h.1
  · rw [Below.heap_alloc _ _ _ (by simp)]; exact h.2.1
  · rw [Below.heap_alloc _ _ _ (by simp)]; exact h.2.2
  · have := heap_alloc_new (((w.alloc (.cells (tab32 8 s) 55)).alloc (.cells (tab32 64 k) 96)).alloc (.cells (tab32 8 fun _ => 0) 55)) (.cells (tab32 64 (sch1 q 0)) 96)
    simpa using this

end Go.Proofs.YtaiiomoajjhliaaDoor

namespace Go.Proofs.YtaiiomoajjhliaaDoor
open Go.RowKit

theorem info5 : ∃ i, Tryd.prog.info? 5 = some i ∧ i.zero = some (.int .u8 0) ∧ i.size = 1 ∧ i.bytes = 1 := by
  have h : (Tryd.prog.info? 5).map (fun i => (i.zero, i.size, i.bytes)) = some (some (.int .u8 0), 1, 1) := by kernel_rfl
  cases hq : Tryd.prog.info? 5 with
  | none => rw [hq] at h; cases h
  | some i =>
    rw [hq] at h
    simp only [Option.map_some, Option.some.injEq, Prod.mk.injEq] at h
    exact ⟨i, rfl, h.1, h.2.1, h.2.2⟩
/-- numbers as cells -/
def vals (l : List Int) : List Value := l.map fun z => Value.int .u8 z
theorem vals_one (l : List Int) : ∀ u ∈ vals l, u.oneCell' = true := by
  intro u hu
  simp only [vals, List.mem_map] at hu
  obtain ⟨z, _, rfl⟩ := hu
  rfl
theorem vals_len (l : List Int) : (vals l).length = l.length := by simp [vals]
theorem vals_append (l r : List Int) : vals l ++ vals r = vals (l ++ r) := by simp [vals]
/-- the first n of p -/
def firstL (p : Nat → Int) (n : Nat) : List Int := (List.range n).map p

theorem isMake {P : Program} {ops : Array Oper} {rest : List Oper} {o : Oper} {a : Act} {w : World} {Q : Exit → Act → World → Prop} (l c : Operand) (_ : o.op = .makeSlice 24 l c) (h : wpList P ops Q (o :: rest) a w) : wpList P ops Q (o :: rest) a w := h
theorem isApp {P : Program} {ops : Array Oper} {rest : List Oper} {o : Oper} {a : Act} {w : World} {Q : Exit → Act → World → Prop} (s x : Operand) (_ : o.op = .call { callee := .builtin .append, args := #[s, x], argTypes := #[24, 24] }) (h : wpList P ops Q (o :: rest) a w) : wpList P ops Q (o :: rest) a w := h

/-- One append to a row of the call's own. -/
theorem wpList_app {ops : Array Oper} {rest : List Oper} {o : Oper} {a : Act} {W : World} {Q : Exit → Act → World → Prop} {B n m c : Nat} {v : Value} {l r : List Int} {ad : Addr} {w0 : World} (hgd : o.guard = none) (s x : Operand)
    (ho : o.op = .call { callee := .builtin .append, args := #[s, x], argTypes := #[24, 24] })
    (hs : a.eval s = v) (hx : a.eval x = .slice (some ad) m c) (hown : W.ownsRow B 5 1 v n (vals l)) (hr : r.length = m) (hsrc : ∀ j u, (vals r)[j]? = some u → W.cell? (ad.add j) = some u)
    (hbig : n + m ≤ 200000000000000) (hb : Below B w0 W) (hB : B ≤ W.heap.size)
    (h : ∀ v' W', W'.ownsRow B 5 1 v' (n + m) (vals (l ++ r)) → Below B w0 W' → B ≤ W'.heap.size → wpList Tryd.prog ops Q rest (a.put o.dst v') W') : wpList Tryd.prog ops Q (o :: rest) a W := by
  obtain ⟨i, h1, h2, h3, h4⟩ := info5
  refine wpList_append_ownL W hgd s x 24 ho B 5 i (.int .u8 0) Tryd.underlying24 h1 h2 h3 h4 rfl v n (vals l) hs hown ad m c (vals r) hx (by rw [vals_len]; omega) hsrc (vals_one r) hbig hB ?_
  intro v' W' hown' hg
  rw [vals_append] at hown'
  exact h v' W' hown' (hb.grown hg hB (fun k hk => (hown.lt k hk).1)) (Nat.le_trans hB hg.size)

/-- The same of whatever source, nil too. -/
theorem wpList_appS {ops : Array Oper} {rest : List Oper} {o : Oper} {a : Act} {W : World} {Q : Exit → Act → World → Prop} {B n m c : Nat} {v : Value} {l r : List Int} {ao : Option Addr} {w0 : World} (hgd : o.guard = none) (s x : Operand)
    (ho : o.op = .call { callee := .builtin .append, args := #[s, x], argTypes := #[24, 24] })
    (hs : a.eval s = v) (hx : a.eval x = .slice ao m c) (hown : W.ownsRow B 5 1 v n (vals l)) (hr : r.length = m)
    (hsrc : (ao = none ∧ m = 0 ∧ c = 0) ∨ ∃ ad, ao = some ad ∧ ∀ j u, (vals r)[j]? = some u → W.cell? (ad.add j) = some u)
    (hbig : n + m ≤ 200000000000000) (hb : Below B w0 W) (hB : B ≤ W.heap.size)
    (h : ∀ v' W', W'.ownsRow B 5 1 v' (n + m) (vals (l ++ r)) → Below B w0 W' → B ≤ W'.heap.size → wpList Tryd.prog ops Q rest (a.put o.dst v') W') : wpList Tryd.prog ops Q (o :: rest) a W := by
  rcases hsrc with ⟨rfl, rfl, rfl⟩ | ⟨ad, rfl, hsrc⟩
  · obtain ⟨i, h1, _, _, _⟩ := info5
    obtain rfl : r = [] := List.eq_nil_of_length_eq_zero hr
    refine wpList_append_own_none hgd s x 24 ho B 5 i 1 Tryd.underlying24 h1 v n (vals l) hs hown hx ?_
    exact h v W (by simpa using hown) hb hB
  · exact wpList_app hgd s x ho hs hx hown hr hsrc hbig hb hB h
/-- The length in a slot. -/
def lenOf : Value → Nat | .slice _ l _ => l | _ => 0
end Go.Proofs.YtaiiomoajjhliaaDoor

namespace Go.Proofs.YtaiiomoajjhliaaDoor
open Go.RowKit

/-- The reference's state behind j blocks of P. -/
def rst (P : Nat → Int) : Nat → Nat → Int
  | 0 => hW
  | j + 1 => fun i => (rst P j i + iterR kW (sched fun b => P (64 * j + b)) (rst P j) 64 i) % 4294967296
theorem rst_succ (P : Nat → Int) (j : Nat) : rst P (j + 1) = fun i => (rst P j i + iterR kW (sched fun b => P (64 * j + b)) (rst P j) 64 i) % 4294967296 := by
  simp only [rst]
/-- The blocks of the reference's Sum. -/
structure RB (w W : World) (S Kb g T : Nat) (P s : Nat → Int) : Prop where
  r : W.heap[w.heap.size]? = some (.cells (tab8 32 fun _ => 0) 47)
  s : W.heap[S]? = some (.cells (tab32 8 s) 55)
  k : W.heap[Kb]? = some (.cells (tab32 64 kW) 96)
  m : ∀ i, i < T → W.cell? ⟨g, i, none⟩ = some (.int .u8 (P i))
  o1 : w.heap.size < S
  o2 : S < Kb
  o3 : Kb < g
  o4 : g < W.heap.size
  below : Below w.heap.size w W
theorem RB.go {w W W' : World} {S Kb g T : Nat} {P s : Nat → Int} (h : RB w W S Kb g T P s) (hb : Below W.heap.size W W') : RB w W' S Kb g T P s := by
  have h1 := h.o1
  have h2 := h.o2
  have h3 := h.o3
  have h4 := h.o4
  have h5 := hb.size
  exact ⟨by rw [hb.block _ (by omega)]; exact h.r, by rw [hb.block _ (by omega)]; exact h.s, by rw [hb.block _ (by omega)]; exact h.k, fun i hi => by rw [below_cell hb h4]; exact h.m i hi, h1, h2, h3, by omega, h.below.trans (hb.mono (by omega))⟩
end Go.Proofs.YtaiiomoajjhliaaDoor

namespace Go.Proofs.YtaiiomoajjhliaaDoor
open Go.RowKit

theorem sch1_congr {b b' : Nat → Int} : ∀ k, (∀ i, i < k → b i = b' i) → sch1 b k = sch1 b' k
  | 0, _ => rfl
  | k + 1, h => by simp only [sch1]; rw [sch1_congr k (fun i hi => h i (by omega)), h k (by omega)]
theorem sched_congr {b b' : Nat → Int} (h : ∀ i, i < 64 → b i = b' i) : sched b = sched b' := by
  unfold sched; rw [sch1_congr 64 h]
theorem hW_mod (i : Nat) : hW i % 4294967296 = hW i := by
  by_cases h : i < 8
  · have : ∀ j : Fin 8, hW j.val % 4294967296 = hW j.val := by decide +kernel
    exact this ⟨i, h⟩
  · have : hW i = 0 := by
      unfold hW
      rw [List.getD_eq_getElem?_getD, List.getElem?_eq_none (by simp [hList]; omega)]
      rfl
    rw [this]; rfl
theorem stW_wkG (g r : Nat → Int) : stW (wkG g r) = fun i => (stW g i + iterR kW (sched r) (stW g) 64 i) % 4294967296 := by
  funext i
  show (hW i + (g i + iterR kW (sched r) (stW g) 64 i) % 4294967296) % 4294967296 = ((hW i + g i) % 4294967296 + iterR kW (sched r) (stW g) 64 i) % 4294967296
  generalize iterR kW (sched r) (stW g) 64 i = x
  omega
theorem overlay_full (r q : Nat → Int) (i : Nat) (hi : i < 64) : overlay r 0 64 q i = q i := by
  simp [overlay, hi]
/-- Behind whole blocks. -/
theorem blocks (p P : Nat → Int) : ∀ j, (∀ i, i < 64 * j → P i = p i) → stW (addN HS.new p (64 * j)).g = rst P j ∧ (addN HS.new p (64 * j)).r = fun _ => 0
  | 0, _ => ⟨by
      funext i
      show (hW i + 0) % 4294967296 = hW i
      rw [Int.add_zero, hW_mod], rfl⟩
  | j + 1, h => by
    obtain ⟨h1, h2⟩ := blocks p P j (fun i hi => h i (by omega))
    have hn : (addN HS.new p (64 * j)).n % 64 = 0 := by rw [addN_n]; simp [HS.new]
    have hf := addN_full (addN HS.new p (64 * j)) (fun i => p (64 * j + i)) 64 (by omega) (by omega)
    rw [show 64 * (j + 1) = 64 * j + 64 by omega, addN_add, hf]
    refine ⟨?_, rfl⟩
    simp only
    rw [stW_wkG, h1, rst_succ, hn]
    have e : sched (overlay (addN HS.new p (64 * j)).r 0 64 fun i => p (64 * j + i)) = sched fun b => P (64 * j + b) := sched_congr fun i hi => by
      rw [overlay_full _ _ _ hi, h (64 * j + i) (by omega)]
    rw [e]
end Go.Proofs.YtaiiomoajjhliaaDoor

namespace Go.Proofs.YtaiiomoajjhliaaDoor
open Go.RowKit

/-- A piece of a []byte. -/
theorem SliceB.sub {w : World} {a : Option Addr} {len cap : Nat} {p : Nat → Int} (hv : SliceB w (.slice a len cap) len p) (l h : Nat) (h1 : l ≤ h) (h2 : h ≤ len) :
    SliceB w (sliced a l h cap 1) (h - l) (fun j => p (l + j)) := by
  obtain ⟨⟨a', cap', e, e1, e2, e3⟩, hp⟩ := hv
  obtain ⟨rfl, _, rfl⟩ : a = a' ∧ len = len ∧ cap = cap' := by
    injection e with x y z
    exact ⟨x, rfl, z⟩
  refine ⟨⟨_, cap - l, rfl, by omega, by omega, fun h0 => ?_⟩, fun j hj => hp (l + j) (by omega)⟩
  obtain ⟨b, off, rfl, hb, hc⟩ := e3 (by omega)
  rw [if_neg (by omega)]
  refine ⟨b, off + l, ?_, hb, fun j hj => ?_⟩
  · simp [Addr.add_mid]
  · rw [Nat.add_assoc]; exact hc (l + j) (by omega)
theorem slice_lh (a : Option Addr) (len cap l h : Nat) (h1 : l ≤ h) (h2 : h ≤ cap) (W : World) : (Instr.sliceAt 24 (.slice a len cap) (some (.int .i64 (l : Int))) (some (.int .i64 (h : Int))) none).run Tryd.prog W = .ok (sliced a l h cap 1) W := by
  have e1 : (l : Int) ≤ h := by omega
  have e2 : (h : Int) ≤ cap := by omega
  simp [Instr.sliceAt, Instr.slice, run_underlying Tryd.underlying24, Instr.sliceBounds, run_sliceBound, sliced, h1, h2]
theorem slice_h (a : Option Addr) (len cap h : Nat) (h2 : h ≤ cap) (W : World) : (Instr.sliceAt 24 (.slice a len cap) none (some (.int .i64 (h : Int))) none).run Tryd.prog W = .ok (sliced a 0 h cap 1) W := by
  have e2 : (h : Int) ≤ cap := by omega
  simp [Instr.sliceAt, Instr.slice, run_underlying Tryd.underlying24, Instr.sliceBounds, run_sliceBound, sliced, h2]
theorem slice_l (a : Option Addr) (len cap l : Nat) (h1 : l ≤ len) (W : World) : (Instr.sliceAt 24 (.slice a len cap) (some (.int .i64 (l : Int))) none none).run Tryd.prog W = .ok (sliced a l len cap 1) W := by
  have e1 : (l : Int) ≤ len := by omega
  simp [Instr.sliceAt, Instr.slice, run_underlying Tryd.underlying24, Instr.sliceBounds, run_sliceBound, sliced, h1]

theorem conv_str {w : World} {v : Value} {l : Nat} {p : Nat → Int} (h : SliceB w v l p) : (convert 24 9 v).run Tryd.prog w = .ok (.string (strOfNums (firstL p l))) w := by
  obtain ⟨⟨a, cap, rfl, h1, h2, h3⟩, hp⟩ := h
  by_cases h0 : 0 < l
  · obtain ⟨b, off, rfl, _, hc⟩ := h3 h0
    refine run_convert_bytes_arg w 24 5 Tryd.underlying24 Tryd.underlying5 b off l cap (firstL p l) (by simp [firstL]) (fun i hi => ?_) 9 Tryd.underlying9
    rw [hc i hi]
    simp [firstL, hi]
  · obtain rfl : l = 0 := by omega
    cases a with
    | none => exact run_convert_bytes_nil w 24 5 Tryd.underlying24 Tryd.underlying5 0 cap 9 Tryd.underlying9
    | some ad =>
      have hl : (loadCells ad 0).run Tryd.prog w = .ok (([] : List Int).map (Value.int .u8)).toArray w := by simpa using run_loadCells_list (P := Tryd.prog) w ad [] (by simp)
      rw [run_convert_bytes_string w 24 9 5 _ 0 cap Tryd.underlying24 Tryd.underlying5 Tryd.underlying9, run_bytesToString w _ 0 cap [] hl]
      rfl
end Go.Proofs.YtaiiomoajjhliaaDoor
