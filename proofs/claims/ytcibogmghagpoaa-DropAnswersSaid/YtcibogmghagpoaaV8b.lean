import Derived.Test.YtcibogmghagpoaaV8a
import Derived.Test.YtcibogmghagpoaaV9e
import Derived.Test.YtcibogmghagpoaaV9l
import Derived.Test.YtcibogmghagpoaaF9b
import Derived.Test.YtcibogmghagpoaaF9a
import Derived.Test.YtcibogmghagpoaaF9c
import Derived.Test.YtcibogmghagpoaaG9d
import Derived.Test.YtcibogmghagpoaaV9o
import Derived.Test.YtcibogmghagpoaaZ9a
import Derived.Lib.Bytes
namespace Go.Proofs.Ytcibogmghagpoaa.Dro
open Go.RowKit Gf8 Aes By8 Cel Cf Tap Drw
/- Lists of bytes and lists of these, read by their values alone (no block is named). -/

/-- Block and offset of a slice. -/
def adB : Value → Nat
  | .slice (some ⟨b, _, _⟩) _ _ => b
  | _ => 0
def adO : Value → Nat
  | .slice (some ⟨_, o, _⟩) _ _ => o
  | _ => 0
/-- v[:k], v[k:]. -/
def cutH : Value → Nat → Value
  | .slice a _ cap, k => sliced a 0 k cap 1
  | v, _ => v
def cutL : Value → Nat → Value
  | .slice a len cap, k => sliced a k len cap 1
  | v, _ => v
/-- A [][]byte: n lists, the i-th of ln i bytes c i. -/
structure Ls (W : World) (cv : Value) (n : Nat) (xv : Nat → Value) (ln : Nat → Nat) (c : Nat → Nat → Nat) : Prop where
  shape : ∃ a cap, cv = .slice a n cap ∧ n ≤ cap ∧ cap < 9223372036854775808 ∧ (0 < n → ∃ b off, a = some ⟨b, off, none⟩ ∧ b < W.heap.size ∧ ∀ i, i < n → W.cell? ⟨b, off + i, none⟩ = some (xv i))
  cell : ∀ i, i < n → SliceN W (xv i) (ln i) (c i)
  nil : ∀ i, i < n → ∀ l cc, xv i = .slice none l cc → cc = 0
  lens : ∀ i, i < n → ln i ≤ 140737488351232
section
variable {W W' : World} {cv v : Value} {n m k : Nat} {xv : Nat → Value} {ln : Nat → Nat} {c : Nat → Nat → Nat} {p : Nat → Nat}
theorem Ls.on (h : Ls W cv n xv ln c) (hb : Below W.heap.size W W') : Ls W' cv n xv ln c := by
  obtain ⟨a, cap, e, h1, h2, h3⟩ := h.shape
  refine ⟨⟨a, cap, e, h1, h2, fun h0 => ?_⟩, fun i hi => (h.cell i hi).on hb, h.nil, h.lens⟩
  obtain ⟨b, off, e2, hl, hc⟩ := h3 h0
  exact ⟨b, off, e2, Nat.lt_of_lt_of_le hl hb.size, fun i hi => by rw [cell_below hb hl]; exact hc i hi⟩
theorem Ls.shp (h : Ls W cv n xv ln c) : ∃ a cap, cv = .slice a n cap := by
  obtain ⟨a, cap, e, _⟩ := h.shape
  exact ⟨a, cap, e⟩
theorem shp (h : SliceN W v n p) : ∃ a cap, v = .slice a n cap := by
  obtain ⟨a, cap, e, _⟩ := h.shape
  exact ⟨a, cap, e⟩
theorem cutH_is (h : SliceN W v n p) (hk : k ≤ n) : SliceN W (cutH v k) k p := by
  obtain ⟨a, cap, rfl⟩ := shp h
  have q := h.sub 0 k (Nat.zero_le _) hk
  have e : (fun j => p (0 + j)) = p := by funext j; rw [Nat.zero_add]
  rw [e] at q
  exact q
theorem cutL_is (h : SliceN W v n p) (hk : k ≤ n) : SliceN W (cutL v k) (n - k) fun j => p (k + j) := by
  obtain ⟨a, cap, rfl⟩ := shp h
  exact h.sub k n hk (Nat.le_refl _)
theorem cutL_nil (h : SliceN W v n p) (h0 : 0 < n) : ∀ l c, cutL v k = .slice none l c → c = 0 := by
  obtain ⟨a, cap, rfl, _, _, q⟩ := h.shape
  obtain ⟨b, off, rfl, _⟩ := q h0
  intro l c e
  simp only [cutL, sliced] at e
  split at e <;> simp at e
theorem slice_cg {q : Nat → Nat} (h : SliceN W v n p) (e : ∀ j, j < n → p j = q j) : SliceN W v n q := sliceN_cg h e
variable {o : Oper} {a : Act} {x y z : Operand}
theorem execLenLL (ho : o.op = .call { callee := .builtin .len, args := #[x], argTypes := #[29] }) (hx : a.eval x = cv) (h : ∃ ad cap, cv = .slice ad n cap) : (execOp a.eval o).run Try.prog W = .ok (.value (.int .i64 (n : Int))) W := by
  obtain ⟨ad, cap, rfl⟩ := h
  exact execLenL ho hx
theorem execIdxLs (h : Ls W cv n xv ln c) (ho : o.op = .indexAddr 29 x y) (hx : a.eval x = cv) (hy : a.eval y = .int .i64 (k : Int)) (hk : k < n) : (execOp a.eval o).run Try.prog W = .ok (.value (.pointer (some ⟨adB cv, adO cv + k, none⟩))) W := by
  obtain ⟨ad, cap, rfl, _, _, q⟩ := h.shape
  obtain ⟨b, off, rfl, _⟩ := q (by omega)
  exact Cf.execIdxL ho hx hy hk
theorem execLdLs (h : Ls W cv n xv ln c) (ho : o.op = .load 23 x) (hx : a.eval x = .pointer (some ⟨adB cv, adO cv + k, none⟩)) (hk : k < n) : (execOp a.eval o).run Try.prog W = .ok (.value (xv k)) W := by
  obtain ⟨ad, cap, rfl, _, _, q⟩ := h.shape
  obtain ⟨b, off, rfl, _, hc⟩ := q (by omega)
  exact execLdL ho hx (hc k hk)
theorem execIdxSb (h : SliceN W v n p) (ho : o.op = .indexAddr 23 x y) (hx : a.eval x = v) (hy : a.eval y = .int .i64 (k : Int)) (hk : k < n) : (execOp a.eval o).run Try.prog W = .ok (.value (.pointer (some ⟨adB v, adO v + k, none⟩))) W := by
  obtain ⟨ad, cap, rfl, _, _, q⟩ := h.shape
  obtain ⟨b, off, rfl, _⟩ := q (by omega)
  exact execIdxS ho hx hy hk
theorem execLdSb (h : SliceN W v n p) (ho : o.op = .load 5 x) (hx : a.eval x = .pointer (some ⟨adB v, adO v + k, none⟩)) (hk : k < n) : (execOp a.eval o).run Try.prog W = .ok (.value (.int .u8 ((p k : Nat) : Int))) W := by
  obtain ⟨ad, cap, rfl, _, _, q⟩ := h.shape
  obtain ⟨b, off, rfl, _, hc⟩ := q (by omega)
  exact execLdB ho hx (hc k hk)
theorem execCutH (h : SliceN W v n p) (ho : o.op = .slice 23 x none (some y) none) (hx : a.eval x = v) (hy : a.eval y = .int .i64 (k : Int)) (hk : k ≤ n) : (execOp a.eval o).run Try.prog W = .ok (.value (cutH v k)) W := by
  obtain ⟨ad, cap, rfl, h1, _⟩ := h.shape
  exact execSlH ho hx hy (slice_h ad n cap k (by omega) W)
theorem execCutL (h : SliceN W v n p) (ho : o.op = .slice 23 x (some y) none none) (hx : a.eval x = v) (hy : a.eval y = .int .i64 (k : Int)) (hk : k ≤ n) : (execOp a.eval o).run Try.prog W = .ok (.value (cutL v k)) W := by
  obtain ⟨ad, cap, rfl, h1, _⟩ := h.shape
  exact execSlL ho hx hy (slice_l ad n cap k hk W)
theorem str_list {q r : Nat → Nat} {n m : Nat} (h : (strN q n).toList = (strN r m).toList) : strN q n = strN r m := by
  have e : ∀ xs : List Int, (strOfNums xs).toList = (strOfNums xs).data.toList := fun xs => by rw [Go.Lib.strOfNums_toList]; rfl
  unfold strN at h ⊢
  rw [e, e] at h
  exact ByteArray.ext (Array.toList_inj.1 h)
theorem execEqSD {q r : Nat → Nat} {n m : Nat} (ho : o.op = .binOp .eql 9 x y 9) (hx : a.eval x = .string (strN q n)) (hy : a.eval y = .string (strN r m)) : (execOp a.eval o).run Try.prog W = .ok (.value (.bool (decide (strN q n = strN r m)))) W := by
  by_cases e : strN q n = strN r m
  · rw [decide_eq_true e]
    exact execEqlS ho hx (hy.trans (congrArg _ e.symm))
  · rw [decide_eq_false e]
    unfold execOp
    simp only [ho, hx, hy]
    simp [go_sem]
    exact fun h => e (str_list h)
theorem execDc {b c : Bool} {r : Result Next} (h : r = .ok (.value (.bool b)) W) (e : b = c) : r = .ok (.value (.bool c)) W := e ▸ h
theorem execBx8 {nm : Nat → Nat} (ho : o.op = .box 22 x) (hx : a.eval x = .agg (bA 8 nm)) : (execOp a.eval o).run Try.prog W = .ok (.value (.pointer (some ⟨W.heap.size, 0, none⟩))) (W.alloc (.cells (bA 8 nm) 22)) := by
  unfold execOp
  simp only [ho, hx]
  simp [go_sem]
theorem execSl8 {g : Nat} (ho : o.op = .slice 22 x none none none) (hx : a.eval x = .pointer (some ⟨g, 0, none⟩)) : (execOp a.eval o).run Try.prog W = .ok (.value (.slice (some ⟨g, 0, none⟩) 8 8)) W := by
  unfold execOp
  simp only [ho, hx]
  simp [go_sem, Instr.sliceAt, Instr.slice, run_underlying Try.underlying22]
theorem slice8 {g : Nat} {nm : Nat → Nat} (h : W.heap[g]? = some (.cells (bA 8 nm) 22)) (hn : ∀ j, j < 8 → nm j < 256) : SliceN W (.slice (some ⟨g, 0, none⟩) 8 8) 8 nm :=
  lit_slice h (fun j hj => by rw [← Array.getElem?_toList]; exact bytesL_at 8 _ hj) hn (by omega)
end
theorem strNinj {p q : Nat → Nat} {n : Nat} (hp : ∀ j, j < n → p j < 256) (hq : ∀ j, j < n → q j < 256) (h : strN p n = strN q n) : ∀ j, j < n → p j = q j := by
  intro j hj
  have h1 := congrArg (fun s => s.data.toList[j]?) h
  simp only [strN, strOfNums_data, numL, List.map_map, List.getElem?_map, List.getElem?_range hj, Option.map_some, Function.comp, Int.toNat_natCast, Option.some.injEq] at h1
  have h2 := congrArg UInt8.toNat h1
  simp only [UInt8.toNat_ofNat'] at h2
  have := hp j hj
  have := hq j hj
  omega
theorem str_iff {p q : Nat → Nat} {n m : Nat} (hp : ∀ j, j < n → p j < 256) (hq : ∀ j, j < m → q j < 256) : strN p n = strN q m ↔ n = m ∧ ∀ j, j < n → p j = q j := by
  constructor
  · intro h
    have e : n = m := by
      have h1 := congrArg ByteArray.size h
      rw [strN_size, strN_size] at h1
      exact h1
    subst e
    exact ⟨rfl, strNinj hp hq h⟩
  · rintro ⟨rfl, h⟩
    exact strN_congr h
end Go.Proofs.Ytcibogmghagpoaa.Dro
