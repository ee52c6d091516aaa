import Derived.Test.YtjoffdaknacbpaaO8b
import Derived.Test.YtjoffdaknacbpaaF9c
import Derived.Test.YtjoffdaknacbpaaY6a
import Derived.Conc.MuLone
import Derived.Defers
namespace Go.Proofs.Ytjoffdaknacbpaa.Sha
open Go.RowKit Gf8 Aes By8 Cel Cf Win
open Go.ChangeMaps Go.MapKept Go.MuLone
/- The locks; a filter in memory. -/

/-- The cells of shards: a lock that is free, a map. -/
def shC (mo : Nat → Option Nat) : Nat → List Value
  | 0 => []
  | n + 1 => shC mo n ++ [.int .i32 0, .int .u32 0, .map (mo n)]
def shA (n : Nat) (mo : Nat → Option Nat) : Array Value := (shC mo n).toArray
theorem shC_len (mo : Nat → Option Nat) : ∀ n, (shC mo n).length = n * 3
  | 0 => rfl
  | n + 1 => by rw [shC, List.length_append, shC_len mo n]; simp; omega
theorem shA_size (n : Nat) (mo : Nat → Option Nat) : (shA n mo).size = n * 3 := by simp [shA, shC_len]
theorem shC_at (mo : Nat → Option Nat) : ∀ n i, i < n → (shC mo n)[i * 3]? = some (.int .i32 0) ∧ (shC mo n)[i * 3 + 1]? = some (.int .u32 0) ∧ (shC mo n)[i * 3 + 2]? = some (.map (mo i))
  | 0, _, h => by omega
  | n + 1, i, h => by
    rw [shC]
    by_cases q : i < n
    · have l := shC_len mo n
      obtain ⟨h1, h2, h3⟩ := shC_at mo n i q
      exact ⟨by rw [List.getElem?_append_left (by omega)]; exact h1, by rw [List.getElem?_append_left (by omega)]; exact h2, by rw [List.getElem?_append_left (by omega)]; exact h3⟩
    · obtain rfl : i = n := by omega
      have l := shC_len mo i
      exact ⟨by rw [List.getElem?_append_right (by omega), l, Nat.sub_self]; rfl, by rw [List.getElem?_append_right (by omega), l, Nat.add_sub_cancel_left]; rfl, by rw [List.getElem?_append_right (by omega), l, Nat.add_sub_cancel_left]; rfl⟩
theorem shA_at {n i : Nat} (mo : Nat → Option Nat) (h : i < n) : (shA n mo)[i * 3]? = some (.int .i32 0) ∧ (shA n mo)[i * 3 + 1]? = some (.int .u32 0) ∧ (shA n mo)[i * 3 + 2]? = some (.map (mo i)) := by
  simpa [shA] using shC_at mo n i h
/-- A filter of n shards; its blocks lie from lo to hi. -/
structure Fl (W : World) (lo hi fb sb : Nat) (mb : Nat → Nat) (n : Nat) (S : Nat → List Off) : Prop where
  f : W.heap[fb]? = some (.cells #[.slice (some ⟨sb, 0, none⟩) n n] 57)
  s : W.heap[sb]? = some (.cells (shA n fun i => some (mb i)) 67)
  m : ∀ i, i < n → MP W (mb i) (S i)
  inj : ∀ i j, i < n → j < n → mb i = mb j → i = j
  rg : lo ≤ fb ∧ fb < hi ∧ lo ≤ sb ∧ sb < hi ∧ ∀ i, i < n → lo ≤ mb i ∧ mb i < hi
  n1 : 1 ≤ n ∧ n ≤ 64
section
variable {W X : World} {lo hi fb sb n : Nat} {mb : Nat → Nat} {S : Nat → List Off}
theorem Fl.keep (h : Fl W lo hi fb sb mb n S) (e : ∀ b, lo ≤ b → b < hi → X.heap[b]? = W.heap[b]?) : Fl X lo hi fb sb mb n S :=
  ⟨by rw [e fb h.rg.1 h.rg.2.1]; exact h.f, by rw [e sb h.rg.2.2.1 h.rg.2.2.2.1]; exact h.s, fun i hi' => (h.m i hi').keep (e _ (h.rg.2.2.2.2 i hi').1 (h.rg.2.2.2.2 i hi').2), h.inj, h.rg, h.n1⟩
theorem Fl.on (h : Fl W lo hi fb sb mb n S) (hb : Below W.heap.size W X) : Fl X lo hi fb sb mb n S :=
  ⟨by rw [hb.block _ (Array.getElem?_eq_some_iff.1 h.f).1]; exact h.f, by rw [hb.block _ (Array.getElem?_eq_some_iff.1 h.s).1]; exact h.s, fun i hi' => (h.m i hi').on hb, h.inj, h.rg, h.n1⟩
/-- A row of another type may change. -/
theorem Fl.offT {g : Nat} {c : Array Value} {t : TypeId} (h : Fl W lo hi fb sb mb n S) (hg : W.heap[g]? = some (.cells c t)) (h1 : t ≠ 57) (h2 : t ≠ 67) (gr : W.grownBy X (some g)) : Fl X lo hi fb sb mb n S := by
  have k : ∀ b o, W.heap[b]? = some o → o ≠ Obj.cells c t → X.heap[b]? = some o := fun b o hb ho => by
    rw [gr.block b (Array.getElem?_eq_some_iff.1 hb).1 (fun e => by cases e; rw [hg] at hb; cases hb; exact ho rfl)]
    exact hb
  refine ⟨k _ _ h.f (fun e => ?_), k _ _ h.s (fun e => ?_), fun i hi' => ?_, h.inj, h.rg, h.n1⟩
  · injection e with _ e2; exact h1 e2.symm
  · injection e with _ e2; exact h2 e2.symm
  · obtain ⟨es, clock, hm, -⟩ := (h.m i hi').map
    exact (h.m i hi').keep (by rw [hm]; exact k _ _ hm (fun e => by cases e))
end
section
variable {o : Oper} {a : Act} {w : World}
end
end Go.Proofs.Ytjoffdaknacbpaa.Sha
