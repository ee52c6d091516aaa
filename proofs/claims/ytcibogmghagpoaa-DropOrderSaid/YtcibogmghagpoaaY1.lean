import Derived.Test.YtcibogmghagpoaaY0
import Derived.Laws.BytesArg
namespace Go.Proofs.Ytcibogmghagpoaa.By8
open Go.RowKit Gf8 Aes

/-- The bytes as numbers. -/
def numL (p : Nat → Nat) (n : Nat) : List Int := (List.range n).map fun i => (p i : Int)
theorem numL_congr {p q : Nat → Nat} {n : Nat} (h : ∀ i, i < n → p i = q i) : numL p n = numL q n := by
  unfold numL
  apply List.map_congr_left
  intro i hi
  rw [h i (List.mem_range.1 hi)]
/-- The string of a list's bytes. -/
def strN (p : Nat → Nat) (n : Nat) : ByteArray := strOfNums (numL p n)
theorem strN_congr {p q : Nat → Nat} {n : Nat} (h : ∀ i, i < n → p i = q i) : strN p n = strN q n := by unfold strN; rw [numL_congr h]
theorem conv_str {w : World} {v : Value} {l : Nat} {p : Nat → Nat} (h : SliceN w v l p) : (convert 23 9 v).run Try.prog w = .ok (.string (strN p l)) w := by
  obtain ⟨⟨a, cap, rfl, h1, h2, h3⟩, hp⟩ := h
  by_cases h0 : 0 < l
  · obtain ⟨b, off, rfl, _, hc⟩ := h3 h0
    refine run_convert_bytes_arg w 23 5 Try.underlying23 Try.underlying5 b off l cap (numL p l) (by simp [numL]) (fun i hi => ?_) 9 Try.underlying9
    rw [hc i hi]
    simp [numL, hi]
  · obtain rfl : l = 0 := by omega
    cases a with
    | none => exact run_convert_bytes_nil w 23 5 Try.underlying23 Try.underlying5 0 cap 9 Try.underlying9
    | some ad =>
      have hl : (loadCells ad 0).run Try.prog w = .ok (([] : List Int).map (Value.int .u8)).toArray w := by simpa using run_loadCells_list (P := Try.prog) w ad [] (by simp)
      rw [run_convert_bytes_string w 23 9 5 _ 0 cap Try.underlying23 Try.underlying5 Try.underlying9, run_bytesToString w _ 0 cap [] hl]
      rfl
section
variable {o : Oper} {a : Act} {w : World}
theorem execStr {x : Operand} {v : Value} {l : Nat} {p : Nat → Nat} (ho : o.op = .convert 23 9 x) (hx : a.eval x = v) (h : SliceN w v l p) : (execOp a.eval o).run Try.prog w = .ok (.value (.string (strN p l))) w := by
  unfold execOp
  simp only [ho, hx, Sem.run_bind, conv_str h, Result.andThen_ok, Sem.run_pure]
theorem execEqlS {x y : Operand} {s : ByteArray} (ho : o.op = .binOp .eql 9 x y 9) (hx : a.eval x = .string s) (hy : a.eval y = .string s) : (execOp a.eval o).run Try.prog w = .ok (.value (.bool true)) w := by
  unfold execOp
  simp only [ho, hx, hy]
  simp [go_sem]
end
end Go.Proofs.Ytcibogmghagpoaa.By8
