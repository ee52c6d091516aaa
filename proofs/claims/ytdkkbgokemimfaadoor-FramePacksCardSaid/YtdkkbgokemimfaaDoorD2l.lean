import Derived.Test.YtdkkbgokemimfaaDoorD2k
import Derived.Test.YtdkkbgokemimfaaDoorK9
namespace Go.Proofs.YtdkkbgokemimfaaDoor.Frm
open Go.RowKit Gf8 Aes By8 Cel
/- The closure of packed; packed. -/

/-- What lies in packed: the batch in block A, the list's variable in block R. -/
structure Pk (A R : Nat) (b : Array Value) (p : Nat → Nat) (m : Nat) (v : Value) (V W : World) : Prop where
  b : W.heap[A]? = some (.cells b 26)
  o : W.heap[R]? = some (.cells #[v] 30)
  own : W.ownsRow (A + 1) 5 1 v m (bytesL m p)
  bel : Below A V W
  lt : A < R
theorem Pk.rules {A R m : Nat} {b : Array Value} {p : Nat → Nat} {v : Value} {V W : World} (h : Pk A R b p m v V W) (g : Rules V) (hA : 0 < A) : Rules W := g.on h.bel hA
theorem Pk.on {A R m : Nat} {b : Array Value} {p : Nat → Nat} {v : Value} {V W W' : World} (h : Pk A R b p m v V W) (hb : Below W.heap.size W W') : Pk A R b p m v V W' := by
  have l1 := (Array.getElem?_eq_some_iff.1 h.b).1
  have l2 := (Array.getElem?_eq_some_iff.1 h.o).1
  exact ⟨by rw [hb.block _ l1]; exact h.b, by rw [hb.block _ l2]; exact h.o, ownsRow_below h.own hb, h.bel.trans (hb.mono (by omega)), h.lt⟩
/-- The list has grown. -/
theorem Pk.grew {A R m m' : Nat} {b : Array Value} {p : Nat → Nat} {v r : Value} {V W W' : World} (h : Pk A R b p m v V W) (hg : Grew (A + 1) v W r W') (own : W'.ownsRow (A + 1) 5 1 r m' (bytesL m' p)) : Pk A R b p m' r V (W'.setRow R #[r]) := by
  have l1 := (Array.getElem?_eq_some_iff.1 h.b).1
  have l2 := (Array.getElem?_eq_some_iff.1 h.o).1
  have lt := h.lt
  have nA : ¬ v.ownBlock = some A := fun e => by have := (h.own.lt A e).1; omega
  have nR : ¬ v.ownBlock = some R := fun e => (own_ne h.own h.o (by decide)) e.symm
  have oR : W'.heap[R]? = some (.cells #[v] 30) := by rw [hg.sv.block _ l2 nR]; exact h.o
  have bel : Below A V W' := h.bel.trans ⟨hg.sv.os, hg.sv.tape, hg.sv.output, hg.sv.size, fun k hk => hg.sv.block k (by omega) fun e => by have := (h.own.lt k e).1; omega⟩
  exact ⟨by rw [setRow_other _ _ _ _ (by omega), hg.sv.block _ l1 nA]; exact h.b, setRow_heap _ _ _ _ _ _ oR, ownsRow_row own oR (by decide) _, below4 bel (by omega) _, lt⟩
section
variable {o : Oper} {a : Act} {w : World}
theorem execLdL {y : Operand} {b f : Nat} {v : Value} (ho : o.op = .load 30 y) (hx : a.eval y = .pointer (some ⟨b, f, none⟩)) (hc : w.cell? ⟨b, f, none⟩ = some v) : (execOp a.eval o).run Tryd.prog w = .ok (.value v) w := by
  unfold execOp
  simp only [ho, hx]
  simp [go_sem, hc]
theorem execStL {x y : Operand} {R : Nat} {u v : Value} (ho : o.op = .store 30 x y) (hx : a.eval x = .pointer (some ⟨R, 0, none⟩)) (hy : a.eval y = v) (h : w.heap[R]? = some (.cells #[u] 30)) (h1 : v.oneCell' = true) : (execOp a.eval o).run Tryd.prog w = .ok .skip (w.setRow R #[v]) :=
  execStV ho hx hy h (by show 0 < 1; decide) (by kernel_rfl) h1 rfl
theorem execClo2 {x y z : Operand} {g : Nat} {lb : Array Value} {vy vz : Value} {ts : Array TypeId} {fn : Func} (hf : Tryd.prog.funcs[g]? = some fn) (hname : (fn.name == "runtime.NumGoroutine") = false) (hb : fn.body.isSome = true) (ho : o.op = .call { callee := .value x, args := #[y, z], argTypes := ts }) (hx : a.eval x = .func (.func g) #[] lb) (hy : a.eval y = vy) (hz : a.eval z = vz) : (execOp a.eval o).run Tryd.prog w = .ok (.enter g (#[vy, vz] ++ lb)) w := by
  have h1 : fn.name ≠ "runtime.NumGoroutine" := by simpa using hname
  obtain ⟨c, hc⟩ := Option.isSome_iff_exists.1 hb
  have h2 : ∀ args, (callFunc g args).run Tryd.prog w = .ok (.enter g args) w := by intro args; simp [callFunc, hf, h1, hc]
  unfold execOp
  simp only [ho, resolve, hx, hy, hz, List.map_toArray, List.map_cons, List.map_nil, Sem.run_bind]
  simp [invoke, Deferred.ofValue, h2]
end
theorem Pk.cell {A R m : Nat} {b : Array Value} {p : Nat → Nat} {v : Value} {V W : World} (h : Pk A R b p m v V W) : W.cell? ⟨R, 0, none⟩ = some v := by
  rw [cell_of_row _ _ _ _ _ _ h.o]
  rfl
set_option maxRecDepth 20000 in
set_option maxHeartbeats 400000 in
theorem add_any (A R m f n : Nat) (b : Array Value) (p : Nat → Nat) (v : Value) (V W : World) (h : Pk A R b p m v V W) (g : Rules V) (hA : 0 < A) (hf : f < 10) (h8 : fsz f ≤ 8) (hn : n < 18446744073709551616) (hm : m ≤ 100000000) (hp : ∀ j, j < fsz f → p (m + j) = numF n (fsz f) j) :
    Calls Tryd.prog 40 #[.int .i64 (f : Int), .int .u64 (n : Int), .pointer (some ⟨R, 0, none⟩)] W fun e w' => e = .returned (.tuple #[]) ∧ ∃ r, Pk A R b p (m + fsz f) r V w' := by
  have HB : Hid (Pk A R b p m v V W ∧ Rules V ∧ 0 < A ∧ f < 10 ∧ fsz f ≤ 8 ∧ n < 18446744073709551616 ∧ m ≤ 100000000 ∧ ∀ j, j < fsz f → p (m + j) = numF n (fsz f) j) := ⟨h, g, hA, hf, h8, hn, hm, hp⟩
  clear h g hA hf h8 hn hm hp
  go_enter Tryd.func40, Tryd.ntmps40
  go_wp2_with fail
  refine wp_region_detX 12 [(0, 5), (1, 6), (2, 7), (3, 8), (4, 9), (5, 10), (6, 11)] (fun l x W' => (l 0 = true → x 0 = v) ∧ (l 1 = true → x 1 = .int .u64 (n : Int)) ∧ (l 2 = true → x 2 = .int .i64 (f : Int)) ∧ (l 3 = true → x 3 = .pointer (some ⟨0, f * 4, none⟩)) ∧ (l 4 = true → x 4 = .pointer (some ⟨0, f * 4, none⟩)) ∧ (l 5 = true → x 5 = .int .i64 (fsz f : Nat)) ∧
    ((l 6 = false ∧ Pk A R b p m v V W') ∨ (l 6 = true ∧ l 7 = false ∧ ∃ W1, Pk A R b p m v V W1 ∧ Grew (A + 1) v W1 (x 6) W' ∧ W'.ownsRow (A + 1) 5 1 (x 6) (m + fsz f) (bytesL (m + fsz f) p)) ∨ (l 7 = true ∧ l 6 = true ∧ Pk A R b p (m + fsz f) (x 6) V W'))) (fun _ => undef) (by kernel_rfl) (by kernel_rfl) rfl (by kernel_rfl) (by decide) (by decide) ?_ ?_ ?_
  · exact ⟨fun q => (by cases q), fun q => (by cases q), fun q => (by cases q), fun q => (by cases q), fun q => (by cases q), fun q => (by cases q), Or.inl ⟨rfl, HB.out.1.on (Below.refl _ _).drew⟩⟩
  · intro j hj l x a W' hl hf hdep hl2 hcl _ hT
    obtain ⟨_, g, hA, hf10, h8, hn, hm, hp⟩ := HB.out
    obtain ⟨t0, t1, t2, t3, t4, t5, t6⟩ := hT
    have no6 : ∀ i, (i = 0 ∨ i = 5) → l i = false → l 6 = false ∧ Pk A R b p m v V W' := by
      intro i hi hli
      have n6 : l 6 = false := by
        cases h6 : l 6 with
        | false => rfl
        | true =>
          rcases hi with rfl | rfl
          · have := hcl 6 _ rfl h6 0 rfl
            rw [hli] at this
            cases this
          · have := hcl 6 _ rfl h6 5 rfl
            rw [hli] at this
            cases this
      refine ⟨n6, ?_⟩
      rcases t6 with ⟨_, pk⟩ | ⟨q, _⟩ | ⟨_, q, _⟩
      · exact pk
      · rw [n6] at q; cases q
      · rw [n6] at q; cases q
    match j, hj with
    | 0, _ =>
      obtain ⟨n6, pk⟩ := no6 0 (Or.inl rfl) hl
      exact stepV rfl rfl (execLdL rfl (hf 2 (by decide)) pk.cell) ⟨_, ⟨_, rfl, rfl⟩, fun _ => rfl, t1, t2, t3, t4, t5, Or.inl ⟨n6, pk⟩⟩
    | 1, _ => exact stepV rfl rfl (execMvB rfl (hf 1 (by decide))) ⟨_, ⟨_, rfl, rfl⟩, t0, fun _ => rfl, t2, t3, t4, t5, t6⟩
    | 2, _ => exact stepV rfl rfl (execMvB rfl (hf 0 (by decide))) ⟨_, ⟨_, rfl, rfl⟩, t0, t1, fun _ => rfl, t3, t4, t5, t6⟩
    | 3, _ => exact stepV rfl rfl (execIdxR rfl ((hdep _ rfl 2 rfl _ rfl _ rfl).trans (t2 (hl2 _ rfl 2 rfl))) hf10) ⟨_, ⟨_, rfl, rfl⟩, t0, t1, t2, fun _ => rfl, t4, t5, t6⟩
    | 4, _ => exact stepV rfl rfl (execFldR rfl ((hdep _ rfl 3 rfl _ rfl _ rfl).trans (t3 (hl2 _ rfl 3 rfl)))) ⟨_, ⟨_, rfl, rfl⟩, t0, t1, t2, t3, fun _ => rfl, t5, t6⟩
    | 5, _ =>
      obtain ⟨n6, pk⟩ := no6 5 (Or.inr rfl) hl
      exact stepV rfl rfl (execLdI rfl ((hdep _ rfl 4 rfl _ rfl _ rfl).trans (t4 (hl2 _ rfl 4 rfl))) ((pk.rules g hA).z f hf10)) ⟨_, ⟨_, rfl, rfl⟩, t0, t1, t2, t3, t4, fun _ => rfl, Or.inl ⟨n6, pk⟩⟩
    | 6, _ =>
      rcases t6 with ⟨_, pk⟩ | ⟨q, _⟩ | ⟨_, q, _⟩
      · exact stepC rfl rfl (execCall3 Tryd.func41 (by kernel_rfl) (by kernel_rfl) rfl ((hdep _ rfl 0 rfl _ rfl _ rfl).trans (t0 (hl2 _ rfl 0 rfl))) ((hdep _ rfl 1 rfl _ rfl _ rfl).trans (t1 (hl2 _ rfl 1 rfl))) ((hdep _ rfl 5 rfl _ rfl _ rfl).trans (t5 (hl2 _ rfl 5 rfl)))) (with_any n (fsz f) m (A + 1) p v W' hn h8 pk.own (by have := (Array.getElem?_eq_some_iff.1 pk.o).1; have := pk.lt; omega) hm hp) fun e w' h => by
          obtain ⟨r, e1, own, gr⟩ := h
          refine ⟨_, e1, _, ⟨_, rfl, rfl⟩, t0, t1, t2, t3, t4, t5, Or.inr (Or.inl ⟨rfl, ?_, W', pk, gr, own⟩)⟩
          show l 7 = false
          cases h7 : l 7 with
          | false => rfl
          | true =>
            have := hcl 7 _ rfl h7 6 rfl
            rw [hl] at this
            cases this
      · rw [hl] at q; cases q
      · rw [hl] at q; cases q
    | 7, _ =>
      rcases t6 with ⟨q, _⟩ | ⟨h6, _, W1, pk, gr, own⟩ | ⟨q, _⟩
      · have := hl2 _ rfl 6 rfl
        rw [q] at this
        cases this
      · have oR : W'.heap[R]? = some (.cells #[v] 30) := by
          rw [gr.sv.block _ (Array.getElem?_eq_some_iff.1 pk.o).1 (fun e => (own_ne pk.own pk.o (by decide)) e.symm)]
          exact pk.o
        exact stepS rfl rfl (execStL rfl (hf 2 (by decide)) (hdep _ rfl 6 rfl _ rfl _ rfl) oR (own_oneCell own)) ⟨_, ⟨_, rfl, rfl⟩, t0, t1, t2, t3, t4, t5, Or.inr (Or.inr ⟨rfl, h6, pk.grew gr own⟩)⟩
      · rw [hl] at q; cases q
    | n + 8, h => exact absurd h (by simp)
  · intro l x W' hall hT
    obtain ⟨_, _, _, _, _, _, t6⟩ := hT
    have h6 := hall 6 (by simp)
    have h7 := hall 7 (by simp)
    have pk : Pk A R b p (m + fsz f) (x 6) V W' := by
      rcases t6 with ⟨q, _⟩ | ⟨_, q, _⟩ | ⟨_, _, pk⟩
      · rw [h6] at q; cases q
      · rw [h7] at q; cases q
      · exact pk
    have PK : Hid (_) := pk
    clear hall t6 h6 h7 pk HB
    simp only [putP, Act.put, List.setIfInBounds_toArray, List.set_cons_succ, List.set_cons_zero]
    go_wp2
    go_end0
    exact ⟨rfl, _, PK.out⟩
end Go.Proofs.YtdkkbgokemimfaaDoor.Frm
