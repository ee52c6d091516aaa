import Derived.Test.YtedjoakpbknflaaDoorA8
import Derived.Laws.CopyOwn
namespace Go.Proofs.YtedjoakpbknflaaDoor
open Go.RowKit

/-- What a hash has taken in. -/
structure HS where
  g : Nat → Int
  r : Nat → Int
  n : Nat
def HS.cells (s : HS) : Array Value := hcells s.g s.r s.n
def HS.new : HS := ⟨fun _ => 0, fun _ => 0, 0⟩
/-- one byte more -/
def add1 (s : HS) (b : Int) : HS :=
  if s.n % 64 = 63 then ⟨wkG s.g (upd s.r (s.n % 64) b), fun _ => 0, s.n + 1⟩ else ⟨s.g, upd s.r (s.n % 64) b, s.n + 1⟩
/-- the first m of p -/
def addN (s : HS) (p : Nat → Int) : Nat → HS
  | 0 => s
  | m + 1 => add1 (addN s p m) (p m)
/-- c bytes of q laid over r from h on -/
def overlay (r : Nat → Int) (h c : Nat) (q : Nat → Int) : Nat → Int := fun i => if h ≤ i ∧ i < h + c then q (i - h) else r i

theorem addN_n (s : HS) (p : Nat → Int) (m : Nat) : (addN s p m).n = s.n + m := by
  induction m with
  | zero => rfl
  | succ m ih =>
    simp only [addN, add1]
    split <;> simp only <;> omega
theorem addN_add (s : HS) (p : Nat → Int) (m c : Nat) : addN s p (m + c) = addN (addN s p m) (fun i => p (m + i)) c := by
  induction c with
  | zero => rfl
  | succ c ih => rw [Nat.add_succ]; simp only [addN]; rw [ih]
theorem addN_congr (s : HS) {p q : Nat → Int} (m : Nat) (h : ∀ i, i < m → p i = q i) : addN s p m = addN s q m := by
  induction m with
  | zero => rfl
  | succ m ih => simp only [addN]; rw [ih (fun i hi => h i (by omega)), h m (by omega)]
theorem overlay_zero (r : Nat → Int) (h : Nat) (q : Nat → Int) : overlay r h 0 q = r := by
  funext i; simp only [overlay]; rw [if_neg (by omega)]
theorem overlay_succ (r : Nat → Int) (h c : Nat) (q : Nat → Int) : upd (overlay r h c q) (h + c) (q c) = overlay r h (c + 1) q := by
  funext i
  simp only [upd, overlay]
  by_cases e : i = h + c
  · subst e; simp
  · by_cases h2 : h ≤ i ∧ i < h + c
    · rw [if_neg e, if_pos h2, if_pos (by omega)]
    · rw [if_neg e, if_neg h2, if_neg (by omega)]
/-- a chunk that does not fill the block -/
theorem addN_part (t : HS) (q : Nat → Int) (c : Nat) (hc : t.n % 64 + c < 64) : addN t q c = ⟨t.g, overlay t.r (t.n % 64) c q, t.n + c⟩ := by
  induction c with
  | zero => rw [overlay_zero]; rfl
  | succ c ih =>
    simp only [addN]
    rw [ih (by omega)]
    unfold add1
    simp only
    have e : (t.n + c) % 64 = t.n % 64 + c := by omega
    rw [e, if_neg (by omega), overlay_succ]
    rfl
/-- a chunk that fills it -/
theorem addN_full (t : HS) (q : Nat → Int) (c : Nat) (hc : t.n % 64 + c = 64) (h0 : 0 < c) : addN t q c = ⟨wkG t.g (overlay t.r (t.n % 64) c q), fun _ => 0, t.n + c⟩ := by
  obtain ⟨d, rfl⟩ : ∃ d, c = d + 1 := ⟨c - 1, by omega⟩
  simp only [addN]
  rw [addN_part t q d (by omega)]
  unfold add1
  simp only
  have e : (t.n + d) % 64 = t.n % 64 + d := by omega
  rw [e, if_pos (by omega), overlay_succ]
  rfl
def HS.ok (s : HS) : Prop := (∀ i, 0 ≤ s.r i) ∧ (∀ i, s.r i < 256)
theorem ok_new : HS.new.ok := ⟨fun _ => by simp [HS.new], fun _ => by simp [HS.new]⟩
theorem ok_add1 {s : HS} (h : s.ok) {b : Int} (h0 : 0 ≤ b) (h1 : b < 256) : (add1 s b).ok := by
  unfold add1 HS.ok
  split
  · exact ⟨fun _ => by simp, fun _ => by simp⟩
  · refine ⟨fun i => ?_, fun i => ?_⟩ <;> simp only [upd] <;> split
    · exact h0
    · exact h.1 i
    · exact h1
    · exact h.2 i
theorem ok_addN {s : HS} (h : s.ok) {p : Nat → Int} {m : Nat} (hp : ∀ i, i < m → 0 ≤ p i ∧ p i < 256) : (addN s p m).ok := by
  induction m with
  | zero => exact h
  | succ m ih => exact ok_add1 (ih fun i hi => hp i (by omega)) (hp m (by omega)).1 (hp m (by omega)).2
theorem ok_overlay {r : Nat → Int} {h c : Nat} {q : Nat → Int} (hr : (∀ i, 0 ≤ r i) ∧ (∀ i, r i < 256)) (hq : ∀ i, i < c → 0 ≤ q i ∧ q i < 256) : (∀ i, 0 ≤ overlay r h c q i) ∧ (∀ i, overlay r h c q i < 256) := by
  refine ⟨fun i => ?_, fun i => ?_⟩ <;> simp only [overlay] <;> split
  · exact (hq _ (by omega)).1
  · exact hr.1 i
  · exact (hq _ (by omega)).2
  · exact hr.2 i

/-- the bytes of a chunk, as cells -/
def chunk (c : Nat) (q : Nat → Int) : List Value := (List.range c).map fun i => Value.int .u8 (q i)
theorem chunk_len (c : Nat) (q : Nat → Int) : (chunk c q).length = c := by simp [chunk]
theorem chunk_get {c : Nat} {q : Nat → Int} {j : Nat} {v : Value} (h : (chunk c q)[j]? = some v) : j < c ∧ v = .int .u8 (q j) := by
  have hj : j < c := by have := (List.getElem?_eq_some_iff.1 h).1; rwa [chunk_len] at this
  refine ⟨hj, ?_⟩
  simp [chunk, hj] at h
  exact h.symm
theorem chunk_one (c : Nat) (q : Nat → Int) : ∀ v ∈ chunk c q, v.oneCell' = true := by
  intro v hv
  simp only [chunk, List.mem_map] at hv
  obtain ⟨i, _, rfl⟩ := hv
  rfl
theorem copied (g r : Nat → Int) (n : Int) (h c : Nat) (q : Nat → Int) (hc : h + c ≤ 64) :
    ((hcells g r n).toList.take (8 + h) ++ (chunk c q ++ (hcells g r n).toList.drop (8 + h + (chunk c q).length))).toArray = hcells g (overlay r h c q) n := by
  have hl : (hcells g r n).toList.length = 73 := hc_len g r n
  have hk := chunk_len c q
  have get : ∀ i, ((hcells g r n).toList.take (8 + h) ++ (chunk c q ++ (hcells g r n).toList.drop (8 + h + (chunk c q).length))).toArray[i]? = if 8 + h ≤ i ∧ i < 8 + h + c then (chunk c q)[i - (8 + h)]? else (hcells g r n)[i]? := by
    intro i
    rw [hk]
    simp only [List.getElem?_toArray]
    by_cases h1 : i < 8 + h
    · rw [if_neg (by omega), List.getElem?_append_left (by simp [hl]; omega), List.getElem?_take, if_pos h1, Array.getElem?_toList]
    · by_cases h2 : i < 8 + h + c
      · rw [if_pos (by omega), List.getElem?_append_right (by simp [hl]; omega), List.length_take, hl, Nat.min_eq_left (by omega), List.getElem?_append_left (by rw [hk]; omega)]
      · rw [if_neg (by omega), List.getElem?_append_right (by simp [hl]; omega), List.length_take, hl, Nat.min_eq_left (by omega), List.getElem?_append_right (by rw [hk]; omega), hk, List.getElem?_drop, show 8 + h + c + (i - (8 + h) - c) = i by omega, Array.getElem?_toList]
  refine hc_ext ?_ ?_ ?_ ?_
  · simp [hl, hk]; omega
  · intro i hi; rw [get, if_neg (by omega), hc_g _ _ _ i hi]
  · intro i hi
    rw [get]
    simp only [overlay]
    by_cases h1 : h ≤ i ∧ i < h + c
    · rw [if_pos (by omega), if_pos h1, show 8 + i - (8 + h) = i - h by omega]
      simp [chunk, show i - h < c by omega]
    · rw [if_neg (by omega), if_neg h1, hc_r _ _ _ i hi]
  · rw [get, if_neg (by omega), hc_n]
end Go.Proofs.YtedjoakpbknflaaDoor
