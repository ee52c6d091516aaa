import Derived.Test.YtjoffdaknacbpaaO8b
import Derived.Test.YtjoffdaknacbpaaF9c
import Derived.Test.YtjoffdaknacbpaaY6a
import Derived.Conc.MuLone
import Derived.Defers
namespace Go.Proofs.Ytjoffdaknacbpaa.Sha
open Go.RowKit Gf8 Aes By8 Cel Cf Win
open Go.ChangeMaps Go.MapKept Go.MuLone
/- The locks; a filter in memory. -/

abbrev muLink : Go.Conc.Locks.MuLink := { lock := 28, unlock := 29, ilock := 34, iunlock := 35, lockSlow := 55, unlockSlow := 57, disable := 37, enable := 38, acquire := 49, relMerge := 36, cas32 := 54, add32 := 56, tMutex := 65, tIMutex := 63, tPMutex := 81, tPIMutex := 97, tPI32 := 99, tUP := 84, tNoCopy := 60, tU32 := 61 }
theorem muLib : Go.Conc.Locks.MuLib Try.prog muLink :=
  ⟨Try.func28, Try.func29, Try.func34, Try.func35, Try.func37, Try.func38, Try.func49, Try.func36, Try.func54, Try.func56,
    Try.underlying63, Try.runUnderlying63, Try.sizeOf63, Try.isAgg63, Try.zeroValue63, Try.underlying65, Try.runUnderlying65, Try.sizeOf65, Try.isAgg65, Try.zeroValue65, Try.underlying81, Try.runUnderlying81, Try.sizeOf81, Try.isAgg81, Try.zeroValue81, Try.underlying97, Try.runUnderlying97, Try.sizeOf97, Try.isAgg97, Try.zeroValue97, Try.underlying99, Try.runUnderlying99, Try.sizeOf99, Try.isAgg99, Try.zeroValue99, Try.underlying84, Try.runUnderlying84, Try.sizeOf84, Try.isAgg84, Try.zeroValue84, Try.underlying60, Try.runUnderlying60, Try.sizeOf60, Try.isAgg60, Try.zeroValue60, Try.underlying21, Try.runUnderlying21, Try.sizeOf21, Try.isAgg21, Try.zeroValue21, (by kernel_rfl)⟩
/-- The cells of shards: a lock that is free, a map. -/
def shC (mo : Nat → Option Nat) : Nat → List Value
  | 0 => []
  | n + 1 => shC mo n ++ [.int .i32 0, .int .u32 0, .map (mo n)]
def shA (n : Nat) (mo : Nat → Option Nat) : Array Value := (shC mo n).toArray
theorem shC_len (mo : Nat → Option Nat) : ∀ n, (shC mo n).length = n * 3
  | 0 => rfl
  | n + 1 => by rw [shC, List.length_append, shC_len mo n]; simp; omega
theorem shA_size (n : Nat) (mo : Nat → Option Nat) : (shA n mo).size = n * 3 := by simp [shA, shC_len]
theorem shC_at (mo : Nat → Option Nat) : ∀ n i, i < n → (shC mo n)[i * 3]? = some (.int .i32 0) ∧ (shC mo n)[i * 3 + 1]? = some (.int .u32 0) ∧ (shC mo n)[i * 3 + 2]? = some (.map (mo i))
  | 0, _, h => by omega
  | n + 1, i, h => by
    rw [shC]
    by_cases q : i < n
    · have l := shC_len mo n
      obtain ⟨h1, h2, h3⟩ := shC_at mo n i q
      exact ⟨by rw [List.getElem?_append_left (by omega)]; exact h1, by rw [List.getElem?_append_left (by omega)]; exact h2, by rw [List.getElem?_append_left (by omega)]; exact h3⟩
    · obtain rfl : i = n := by omega
      have l := shC_len mo i
      exact ⟨by rw [List.getElem?_append_right (by omega), l, Nat.sub_self]; rfl, by rw [List.getElem?_append_right (by omega), l, Nat.add_sub_cancel_left]; rfl, by rw [List.getElem?_append_right (by omega), l, Nat.add_sub_cancel_left]; rfl⟩
theorem shA_at {n i : Nat} (mo : Nat → Option Nat) (h : i < n) : (shA n mo)[i * 3]? = some (.int .i32 0) ∧ (shA n mo)[i * 3 + 1]? = some (.int .u32 0) ∧ (shA n mo)[i * 3 + 2]? = some (.map (mo i)) := by
  simpa [shA] using shC_at mo n i h
theorem shC_cg {mo mp : Nat → Option Nat} : ∀ {n}, (∀ i, i < n → mo i = mp i) → shC mo n = shC mp n
  | 0, _ => rfl
  | n + 1, h => by rw [shC, shC, shC_cg (n := n) (fun i hi => h i (by omega)), h n (by omega)]
/-- A filter of n shards; its blocks lie from lo to hi. -/
structure Fl (W : World) (lo hi fb sb : Nat) (mb : Nat → Nat) (n : Nat) (S : Nat → List Off) : Prop where
  f : W.heap[fb]? = some (.cells #[.slice (some ⟨sb, 0, none⟩) n n] 57)
  s : W.heap[sb]? = some (.cells (shA n fun i => some (mb i)) 67)
  m : ∀ i, i < n → MP W (mb i) (S i)
  inj : ∀ i j, i < n → j < n → mb i = mb j → i = j
  rg : lo ≤ fb ∧ fb < hi ∧ lo ≤ sb ∧ sb < hi ∧ ∀ i, i < n → lo ≤ mb i ∧ mb i < hi
  n1 : 1 ≤ n ∧ n ≤ 64
section
variable {W X : World} {lo hi fb sb n : Nat} {mb : Nat → Nat} {S : Nat → List Off}
theorem Fl.keep (h : Fl W lo hi fb sb mb n S) (e : ∀ b, lo ≤ b → b < hi → X.heap[b]? = W.heap[b]?) : Fl X lo hi fb sb mb n S :=
  ⟨by rw [e fb h.rg.1 h.rg.2.1]; exact h.f, by rw [e sb h.rg.2.2.1 h.rg.2.2.2.1]; exact h.s, fun i hi' => (h.m i hi').keep (e _ (h.rg.2.2.2.2 i hi').1 (h.rg.2.2.2.2 i hi').2), h.inj, h.rg, h.n1⟩
theorem Fl.on (h : Fl W lo hi fb sb mb n S) (hb : Below W.heap.size W X) : Fl X lo hi fb sb mb n S :=
  ⟨by rw [hb.block _ (Array.getElem?_eq_some_iff.1 h.f).1]; exact h.f, by rw [hb.block _ (Array.getElem?_eq_some_iff.1 h.s).1]; exact h.s, fun i hi' => (h.m i hi').on hb, h.inj, h.rg, h.n1⟩
/-- A row of another type may change. -/
theorem Fl.offT {g : Nat} {c : Array Value} {t : TypeId} (h : Fl W lo hi fb sb mb n S) (hg : W.heap[g]? = some (.cells c t)) (h1 : t ≠ 57) (h2 : t ≠ 67) (gr : W.grownBy X (some g)) : Fl X lo hi fb sb mb n S := by
  have k : ∀ b o, W.heap[b]? = some o → o ≠ Obj.cells c t → X.heap[b]? = some o := fun b o hb ho => by
    rw [gr.block b (Array.getElem?_eq_some_iff.1 hb).1 (fun e => by cases e; rw [hg] at hb; cases hb; exact ho rfl)]
    exact hb
  refine ⟨k _ _ h.f (fun e => ?_), k _ _ h.s (fun e => ?_), fun i hi' => ?_, h.inj, h.rg, h.n1⟩
  · injection e with _ e2; exact h1 e2.symm
  · injection e with _ e2; exact h2 e2.symm
  · obtain ⟨es, clock, hm, -⟩ := (h.m i hi').map
    exact (h.m i hi').keep (by rw [hm]; exact k _ _ hm (fun e => by cases e))
end
section
variable {o : Oper} {a : Act} {w : World}
theorem execNilC {P : Program} {x : Operand} {ad : Addr} (ho : o.op = .nilCheck x) (hx : a.eval x = .pointer (some ad)) : (execOp a.eval o).run P w = .ok (.value (.pointer (some ad))) w := by
  unfold execOp
  simp only [ho, hx]
  simp [go_sem]
theorem execFldS0 {x : Operand} {b k : Nat} (ho : o.op = .fieldAddr 67 x 0) (hx : a.eval x = .pointer (some ⟨b, k, none⟩)) : (execOp a.eval o).run Try.prog w = .ok (.value (.pointer (some ⟨b, k, none⟩))) w := by
  unfold execOp
  simp only [ho, hx]
  simp [go_sem]
theorem execFldS1 {x : Operand} {b k : Nat} (ho : o.op = .fieldAddr 67 x 1) (hx : a.eval x = .pointer (some ⟨b, k, none⟩)) : (execOp a.eval o).run Try.prog w = .ok (.value (.pointer (some ⟨b, k + 2, none⟩))) w := by
  unfold execOp
  simp only [ho, hx]
  simp [go_sem]
theorem execFldF0 {x : Operand} {b k : Nat} (ho : o.op = .fieldAddr 57 x 0) (hx : a.eval x = .pointer (some ⟨b, k, none⟩)) : (execOp a.eval o).run Try.prog w = .ok (.value (.pointer (some ⟨b, k, none⟩))) w := by
  unfold execOp
  simp only [ho, hx]
  simp [go_sem]
theorem execDefU {x : Operand} {ad : Addr} {q : Array TypeId} (ho : o.op = .defer { callee := .value (.func 29), args := #[x], argTypes := q }) (hx : a.eval x = .pointer (some ad)) : (execOp a.eval o).run Try.prog w = .ok (.defer { target := .fn (.func 29) #[], args := #[.pointer (some ad)] }) w := by
  unfold execOp
  simp only [ho]
  simp [go_sem]
  cases x <;> first | (simp [Act.eval] at hx; done) | (simp [Act.eval] at hx ⊢; exact hx)
theorem execLdMp {x : Operand} {b k : Nat} {v : Value} (ho : o.op = .load 58 x) (hx : a.eval x = .pointer (some ⟨b, k, none⟩)) (hc : w.cell? ⟨b, k, none⟩ = some v) : (execOp a.eval o).run Try.prog w = .ok (.value v) w := by
  unfold execOp
  simp only [ho, hx]
  simp [go_sem, hc]
theorem execLkMp {x y : Operand} {b : Nat} {f : Nat → Nat} {S : List Off} (ho : o.op = .lookup 58 x y true) (hx : a.eval x = .map (some b)) (hy : a.eval y = .agg (bA 16 f)) (h : MP w b S) (hf : ∀ i, i < 16 → f i < 256) : (execOp a.eval o).run Try.prog w = .ok (.value (.tuple #[.int .i64 ((fnd S (tv f 16)).getD 0), .bool (fnd S (tv f 16)).isSome])) w := by
  unfold execOp
  simp only [ho, hx, hy]
  simp only [Sem.run_bind, h.look hf, Result.andThen]
  rfl
theorem execMUp {x y z : Operand} {b : Nat} {k v : Value} {w2 : World} (ho : o.op = .mapUpdate 58 x y z) (hx : a.eval x = .map (some b)) (hy : a.eval y = k) (hz : a.eval z = v) (h : (Instr.mapUpdate 58 (.map (some b)) k v).run Try.prog w = .ok () w2) : (execOp a.eval o).run Try.prog w = .ok .skip w2 := by
  unfold execOp
  simp only [ho, hx, hy, hz]
  simp [h, Result.andThen]
theorem execLenMp {x : Operand} {b : Nat} {S : List Off} (ho : o.op = .call { callee := .builtin .len, args := #[x], argTypes := #[58] }) (hx : a.eval x = .map (some b)) (h : MP w b S) : (execOp a.eval o).run Try.prog w = .ok (.value (.int .i64 ((S.length : Nat) : Int))) w := by
  obtain ⟨es, clock, hb, -⟩ := h.map
  have e := h.len hb
  unfold execOp
  simp only [ho, resolve, invoke, builtin, List.map_toArray, List.map_cons, List.map_nil, hx]
  simp [Builtin.len_, run_underlying und58, MapKept.run_getObj_map hb, e, Result.andThen, goInt]
end
end Go.Proofs.Ytjoffdaknacbpaa.Sha
