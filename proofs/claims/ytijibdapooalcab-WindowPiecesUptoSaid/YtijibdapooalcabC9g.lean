import Derived.Test.YtijibdapooalcabC9f
namespace Go.Proofs.Ytijibdapooalcab.Win
open Go.RowKit Gf8 Aes By8 Cel Cf
/- Two lists in order made one; halves; what the reference's sorted needs. Written by tools/mkC9g.py. -/

section
variable {A B : Nat → Nat} {ma mb i j : Nat} {o : List Nat}
end
theorem inc_tgL {n : Nat} {t : Nat → Nat → Nat} (h : Inc (tgL n t)) : ∀ k, k + 1 < n → tv (t k) 16 < tv (t (k + 1)) 16 := fun k hk => by
  have h2 := List.pairwise_iff_getElem.1 h k (k + 1) (by rw [len_tgL]; omega) (by rw [len_tgL]; omega) (by omega)
  simpa [tgL] using h2
theorem tgL_snoc {k : Nat} {t : Nat → Nat → Nat} {f : Nat → Nat} : tgL (k + 1) (catT k t fun _ => f) = tgL k t ++ [tv f 16] := tgL_cat (m := 1)
section
variable {W : World} {b off n c h : Nat} {t : Nat → Nat → Nat}
theorem Tgs.take {v : Value} (q : Tgs W v n t) (e : v = .slice (some ⟨b, off, none⟩) n c) (hh : h ≤ n) : Tgs W (.slice (some ⟨b, off, none⟩) h c) h t := by
  subst e
  obtain ⟨⟨a, c', e', h1, h2, h3⟩, hb, _⟩ := q
  injection e' with e1 _ e3
  subst e1 e3
  refine ⟨⟨_, _, rfl, by omega, h2, fun h0 => ?_⟩, fun j hj => hb j (by omega), fun l c e => by cases e⟩
  obtain ⟨b', o', e4, e5, e6⟩ := h3 (by omega)
  exact ⟨b', o', e4, e5, fun j hj => e6 j (by omega)⟩
theorem Tgs.drop {v : Value} (q : Tgs W v n t) (e : v = .slice (some ⟨b, off, none⟩) n c) (hh : h ≤ n) : Tgs W (.slice (some ⟨b, off + h * 16, none⟩) (n - h) (c - h)) (n - h) fun k => t (h + k) := by
  subst e
  obtain ⟨⟨a, c', e', h1, h2, h3⟩, hb, _⟩ := q
  injection e' with e1 _ e3
  subst e1 e3
  refine ⟨⟨_, _, rfl, by omega, by omega, fun h0 => ?_⟩, fun j hj => hb _ (by omega), fun l c e => by cases e⟩
  obtain ⟨b', o', e4, e5, e6⟩ := h3 (by omega)
  injection e4 with e4
  injection e4 with e7 e8 _
  subst e7 e8
  exact ⟨b, off + h * 16, rfl, e5, fun j hj i hi => by
    have := e6 (h + j) (by omega) i hi
    rw [show off + h * 16 + j * 16 + i = off + (h + j) * 16 + i by omega]
    exact this⟩
end
section
variable {o : Oper} {a : Act} {w : World}
theorem fill16w (f : Nat → Nat) : Instr.fill (fun i => some (i * 16, 16)) ((Array.range (1 * 16)).map ((bA 16 fun _ => 0)[· % (bA 16 fun _ => 0).size]!)) [(0, .agg (bA 16 f))] = some (bA 16 f) := by
  kernel_rfl
theorem execBsT {x : Operand} {f : Nat → Nat} (ho : o.op = .buildSlice 25 1 #[(0, x)]) (hx : a.eval x = .agg (bA 16 f)) : (execOp a.eval o).run Try.prog w = .ok (.value (.slice (some ⟨w.heap.size, 0, none⟩) 1 1)) (w.alloc (.cells (bA 16 f) 36)) := by
  have hz : (zeroValue 36).run Try.prog w = .ok (.agg (bA 16 fun _ => 0)) w := zero16 w
  have hs : (sizeOf 36).run Try.prog w = .ok 16 w := by simp [go_sem]
  have hf := fill16w f
  have e : (#[((0 : Nat), x)] : Array (Nat × Operand)).map (fun (i, y) => (i, a.eval y)) = #[(0, .agg (bA 16 f))] := by simp [hx]
  have hr : (Instr.buildSlice 25 1 #[(0, .agg (bA 16 f))]).run Try.prog w = .ok (.slice (some ⟨w.heap.size, 0, none⟩) 1 1) (w.alloc (.cells (bA 16 f) 36)) := by
    simp only [Instr.buildSlice, Sem.run_bind, run_underlying Try.underlying25, Result.andThen_ok, hs]
    rw [if_neg (by decide), if_neg (by decide)]
    simp only [Sem.run_bind, Sem.run_pure, Result.andThen_ok, hz, Value.cells, hf]
    simp [newRow]
  unfold execOp
  simp only [ho, e, Sem.run_bind, hr, Result.andThen_ok, Sem.run_pure]
end
theorem one_tgs (W : World) (f : Nat → Nat) (hf : ∀ i, i < 16 → f i < 256) : Tgs (W.alloc (.cells (bA 16 f) 36)) (.slice (some ⟨W.heap.size, 0, none⟩) 1 1) 1 fun _ => f :=
  ⟨⟨_, _, rfl, Nat.le_refl _, by omega, fun _ => ⟨W.heap.size, 0, rfl, by simp, fun j hj i hi => by
    obtain rfl : j = 0 := by omega
    rw [show 0 + 0 * 16 + i = i by omega]
    exact ld16 (heapNew W _) hi⟩⟩, fun j _ => hf, fun l c e => by cases e⟩
end Go.Proofs.Ytijibdapooalcab.Win
