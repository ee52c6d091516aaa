import Derived.Test.YtmlealepeoefpaaG9j
namespace Go.Proofs.Ytmlealepeoefpaa.Drw
open Go.RowKit Gf8 Aes By8 Cel Cf Tap
/- DrawEven over any Impl. Written by tools/mkG9k.py. -/

theorem allE_is {p : Nat → Nat} {l : Nat} {bs : Nat → Int} {n : Nat} (h : anyB bs n = false) (hok : okA p l bs n) : allE p l bs n = 0 := by
  unfold allE
  rw [if_neg (by rw [h]; decide), if_pos (okB_iff.2 hok)]
theorem trE_is {p : Nat → Nat} {l : Nat} {bs ws : Nat → Int} {n : Nat} (h : anyB bs n = false) (hw : wOk bs ws n) (hok : okA p l bs n) : trE p l bs n ws n = 0 := by
  unfold trE
  rw [if_neg (fun q => by
    rcases q with q | q | q
    · rw [h] at q; cases q
    · exact q rfl
    · rw [anyW_no.2 hw] at q; cases q), if_pos (okB_iff.2 hok)]
theorem trE_two {p : Nat → Nat} {l : Nat} {bs ws : Nat → Int} {n m : Nat} (ha : ¬ trE p l bs n ws m = allE p l bs n) : trE p l bs n ws m = 2 := by
  unfold trE at ha ⊢
  by_cases h1 : anyB bs n = true ∨ m ≠ n ∨ anyW bs ws m = true
  · rw [if_pos h1]
  · rw [if_neg h1] at ha
    exfalso
    apply ha
    unfold allE
    rw [if_neg (fun q => h1 (Or.inl q))]
theorem tk_nil {W : World} {B n : Nat} {v : Value} {q : Nat → Nat} (h : TkA W B v n q) : ∀ l c, v = .slice none l c → c = 0 := by
  intro l c e
  rcases h with ⟨rfl, _⟩ | h
  · injection e with _ _ e
    exact e.symm
  · exact absurd e (h.some l c)
theorem execMkN {o : Oper} {a : Act} {w : World} {x y : Operand} {n : Nat} (ho : o.op = .makeSlice 23 x y) (hx : a.eval x = .int .i64 (n : Int)) (hy : a.eval y = .int .i64 (n : Int)) (hn : n ≤ 17592186044416) : (execOp a.eval o).run Try.prog w = .ok (.value (.slice (some ⟨w.heap.size, 0, none⟩) n n)) (w.alloc (.cells (madeCells #[.int .i64 0] n) 3)) := by
  obtain ⟨i, h1, h2, h3, h4⟩ := infoI
  have h := run_make (P := Try.prog) w 23 3 i (.int .i64 0) Try.underlying23 h1 h2 .i64 .i64 (n : Int) (n : Int) (by omega) (by omega) (by rw [h4]; omega) (by omega)
  rw [h3, Int.toNat_natCast, Nat.mul_one] at h
  unfold execOp
  simp only [ho, hx, hy, Sem.run_bind, h, Result.andThen_ok, Sem.run_pure]
  rfl
theorem zerosI (W : World) (n : Nat) (hn : n ≤ 17592186044416) : SliceI (W.alloc (.cells (madeCells #[.int .i64 0] n) 3)) (.slice (some ⟨W.heap.size, 0, none⟩) n n) n (fun _ => 0) :=
  ⟨⟨_, _, rfl, Nat.le_refl _, by unfold maxLen; omega, fun _ => ⟨W.heap.size, 0, rfl, by simp, fun j hj => by rw [cell_of_row _ _ _ _ _ _ (heapNew W _), Nat.zero_add]; simp [madeCells, hj, Nat.mod_one]⟩⟩, fun _ _ => by decide⟩
end Go.Proofs.Ytmlealepeoefpaa.Drw
