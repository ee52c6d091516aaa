import Derived.Test.YtjaddenjeaalaaaDoorQ2
namespace Go.Proofs.YtjaddenjeaalaaaDoor
open Go.RowKit

/-- All but the blocks G is as it was. -/
structure Save (G : Nat → Prop) (w w' : World) : Prop where
  os : w'.os = w.os
  tape : w'.tape = w.tape
  output : w'.output = w.output
  size : w.heap.size ≤ w'.heap.size
  block : ∀ k, k < w.heap.size → ¬ G k → w'.heap[k]? = w.heap[k]?
theorem Save.refl (G : Nat → Prop) (w : World) : Save G w w := ⟨rfl, rfl, rfl, Nat.le_refl _, fun _ _ _ => rfl⟩
theorem Save.below {G : Nat → Prop} {w w' w'' : World} (h : Save G w w') (hb : Below w'.heap.size w' w'') : Save G w w'' :=
  ⟨hb.os.trans h.os, hb.tape.trans h.tape, hb.output.trans h.output, Nat.le_trans h.size hb.size, fun k hk hG => by rw [hb.block k (Nat.lt_of_lt_of_le hk h.size), h.block k hk hG]⟩
theorem Save.cell {G : Nat → Prop} {w w' : World} (h : Save G w w') {b o : Nat} (v : Value) (hG : G b) : Save G w (w'.setCell ⟨b, o, none⟩ v) := by
  have hb : Below b w' (w'.setCell ⟨b, o, none⟩ v) := (Below.refl _ _).setCell (p := ⟨b, o, none⟩) (Nat.le_refl _) v
  refine ⟨hb.os.trans h.os, hb.tape.trans h.tape, hb.output.trans h.output, Nat.le_trans h.size hb.size, fun k hk hk2 => ?_⟩
  rw [Below.heap_setCell _ _ _ _ (fun e => hk2 (by rw [e]; exact hG)), h.block k hk hk2]
theorem Save.to_below {G : Nat → Prop} {w w' : World} {B : Nat} (h : Save G w w') (hB : B ≤ w.heap.size) (hG : ∀ k, G k → B ≤ k) : Below B w w' :=
  ⟨h.os, h.tape, h.output, h.size, fun k hk => h.block k (by omega) (fun e => by have := hG k e; omega)⟩

/-- append where there is no room: a new row, all else as it was. -/
theorem wpList_appF {ops : Array Oper} {rest : List Oper} {o : Oper} {a : Act} {W : World} {Q : Exit → Act → World → Prop} {n : Nat} {ao : Option Addr} {ad : Addr} {f : Nat → Int} {z : Int} (hgd : o.guard = none) (s x : Operand)
    (ho : o.op = .call { callee := .builtin .append, args := #[s, x], argTypes := #[22, 22] })
    (hs : a.eval s = .slice ao n n) (hx : a.eval x = .slice (some ad) 1 1) (hnil : ao = none → n = 0) (hold : 0 < n → ∃ g, ao = some ⟨g, 0, none⟩ ∧ ∀ j, j < n → W.cell? ⟨g, j, none⟩ = some (.int .u8 (f j)))
    (hsrc : ∀ j u, (vals [z])[j]? = some u → W.cell? (ad.add j) = some u) (hn : n ≤ 8160)
    (h : ∀ v' W', W'.ownsRow W.heap.size 5 1 v' (n + 1) (vals (firstL f n ++ [z])) → Below W.heap.size W W' → wpList Tryd.prog ops Q rest (a.put o.dst v') W') : wpList Tryd.prog ops Q (o :: rest) a W := by
  obtain ⟨i, h1, h2, h3, h4⟩ := info5
  have hlen : (vals (firstL f n)).length = n * i.size := by rw [vals_len, firstL_len, h3, Nat.mul_one]
  have hnl : (vals [z]).length = 1 * i.size := by rw [vals_len, h3]; rfl
  have hnew : ∀ cap0, (W.drew.alloc (.cells ((vals (firstL f n)).toArray ++ (vals [z]).toArray ++ Builtin.zeroCells (Value.int .u8 0).cells (grownCap W (n + 1) cap0 5 - (n + 1))) 5)).ownsRow W.heap.size 5 1 (.slice (some ⟨W.heap.size, 0, none⟩) (n + 1) (grownCap W (n + 1) cap0 5)) (n + 1) (vals (firstL f n ++ [z])) := by
    intro cap0
    have hge := grownCap_ge W (n + 1) cap0 5
    have hcm : grownCap W (n + 1) cap0 5 ≤ maxLen := grownCap_le_maxLen W (n + 1) cap0 5 (by unfold maxLen; omega)
    refine ⟨by simp [vals, firstL], Or.inr ⟨W.heap.size, _, _, rfl, Nat.le_refl _, heap_alloc_new W.drew _, hge, hcm, ?_, ?_⟩⟩
    · simp only [Array.size_append, List.size_toArray, size_zeroCells, vals_len, firstL_len, Value.cells]
      simp
      omega
    · simp only [Array.toList_append, List.append_assoc]
      rw [← vals_append, ← List.append_assoc, List.take_left' (by simp [vals, firstL])]
  have hbel : ∀ O, Below W.heap.size W (W.drew.alloc O) := fun O => (Below.refl _ _).drew.alloc (Nat.le_refl _) _
  refine wpList_plain hgd fun K hK => ?_
  cases ao with
  | none =>
    obtain rfl := hnil rfl
    have hr := run_append_nil (P := Tryd.prog) W 22 o.type 5 i (.int .u8 0) Tryd.underlying22 h1 h2 ad 1 1 (vals [z]) hnl hsrc (by omega) (by omega) (by rw [h4]; omega)
    have hw := hnew 0
    simp only [firstL, vals, List.range_zero, List.map_nil, Array.empty_append, Nat.zero_add, List.nil_append] at hw
    unfold Oper.wp execOp
    simp only [ho, resolve, invoke, builtin, Sem.run_bind, Sem.run_pure, Result.andThen_ok, List.map_toArray, List.map_cons, List.map_nil, hs, hx, hr]
    refine hK _ _ (h _ _ ?_ (hbel _))
    simpa [firstL, vals] using hw
  | some b =>
    have holds : ∀ j v, (vals (firstL f n))[j]? = some v → W.cell? (b.add j) = some v := by
      intro j v hv
      have hj : j < n := by have := (List.getElem?_eq_some_iff.1 hv).1; simpa [vals, firstL] using this
      obtain ⟨g, e, hc⟩ := hold (by omega)
      cases e
      rw [Addr.add_mid, Nat.zero_add, hc j hj]
      rw [firstL_get hj] at hv
      exact hv
    have hr := run_append_grow (P := Tryd.prog) W 22 o.type 5 i (.int .u8 0) Tryd.underlying22 h1 h2 b n n (vals (firstL f n)) hlen holds ad 1 1 (vals [z]) hnl hsrc (by omega) (by omega) (growslice_fits (by omega) (by rw [h4]; omega))
    unfold Oper.wp execOp
    simp only [ho, resolve, invoke, builtin, Sem.run_bind, Sem.run_pure, Result.andThen_ok, List.map_toArray, List.map_cons, List.map_nil, hs, hx, hr]
    exact hK _ _ (h _ _ (hnew n) (hbel _))
end Go.Proofs.YtjaddenjeaalaaaDoor
