import Derived.Test.YtaoncjgllcndmaaDoorK7
import Derived.Test.YtaoncjgllcndmaaDoorD2k
namespace Go.Proofs.YtaoncjgllcndmaaDoor
open Go.RowKit
/- A drawn region whose operations yield values that are found on the way. -/

theorem wp_region_detX {P : Program} {ops : Array Oper} {Q : Exit → Act → World → Prop} {id : Nat} {a0 : Act} {V : World} (N : Nat) (ds : List (Nat × Nat)) (T : (Nat → Bool) → (Nat → Value) → World → Prop) (x0 : Nat → Value)
    (hm : P.follows .mixedOrders = true) (hf : frontB .any ops = true) (hN : a0.tmps.size = N) (hD : dsOf ops = ds) (hnd : (ds.map (·.2)).Nodup) (hds : ds.all (fun p => decide (p.2 < N)) = true)
    (h0 : T (fun _ => false) x0 V.drew)
    (step : ∀ j, j < ops.size → ∀ l x a w, l j = false → (∀ e, e ∉ ds.map (·.2) → a.eval (.tmp e) = a0.eval (.tmp e)) → (∀ o, ops[j]? = some o → ∀ i, waits o i = true → ∀ q, ops[i]? = some q → ∀ d, q.dst = some d → a.eval (.tmp d) = x i) →
      (∀ o, ops[j]? = some o → ∀ i, waits o i = true → l i = true) → (∀ i q, ops[i]? = some q → l i = true → ∀ m, waits q m = true → l m = true) → (∀ i q, ops[i]? = some q → ∀ d, q.dst = some d → l i = false → a.eval (.tmp d) = a0.eval (.tmp d)) → T l x w → wpOp P ops Q j (fun a' w' => ∃ v, (∃ o, ops[j]? = some o ∧ a' = a.put o.dst v) ∧ T (updB l j) (updS x j v) w') a w)
    (fin : ∀ l x w, (∀ j, j < ops.size → l j = true) → T l x w → Q .normal (putP a0 x ds) w) : (Code.region id ops true).wp P Q a0 V := by
  subst hD
  have hds' : ∀ p ∈ dsOf ops, p.2 < N := fun p hp => by simpa using List.all_eq_true.1 hds p hp
  refine wp_region_inv (fun listed a w => listed.size = ops.size ∧ DC .any ops listed ∧ a.tmps.size = N ∧ a.defers = a0.defers ∧ ∃ x : Nat → Value, (∀ e, e ∉ (dsOf ops).map (·.2) → a.eval (.tmp e) = a0.eval (.tmp e)) ∧
    (∀ p, p ∈ dsOf ops → listed.getD p.1 false = true → a.eval (.tmp p.2) = x p.1) ∧ (∀ p, p ∈ dsOf ops → listed.getD p.1 false = false → a.eval (.tmp p.2) = a0.eval (.tmp p.2)) ∧ T (fun i => listed.getD i false) x w) hm hf ?_ (fun _ _ _ h => h.1) ?_ ?_
  · refine ⟨by simp, ?_, hN, rfl, x0, fun _ _ => rfl, ?_, fun _ _ _ => rfl, ?_⟩
    · intro j o ho hl
      have hj : j < ops.size := (Array.getElem?_eq_some_iff.1 ho).1
      simp [hj] at hl
    · rintro ⟨j, d⟩ hp hl
      obtain ⟨o, ho, _⟩ := mem_dsOf.1 hp
      have hj : j < ops.size := (Array.getElem?_eq_some_iff.1 ho).1
      simp [hj] at hl
    · have e : (fun i => (Array.replicate ops.size false).getD i false) = fun _ => false := by
        funext i
        by_cases hi : i < ops.size <;> simp [hi]
      rw [e]
      exact h0
  · rintro listed a w ⟨hs, hdc, ha, had, x, hfr, hv, hno, hT⟩ j o ho hun hdep
    have hj : j < ops.size := (Array.getElem?_eq_some_iff.1 ho).1
    have hun' : listed.getD j false = false := by
      have hl : j < listed.size := by omega
      simp [hl] at hun ⊢
      exact hun
    have hdc' : DC .any ops (listed.setIfInBounds j true) := by
      intro i oi hoi hl e he hb
      by_cases eij : i = j
      · subst eij
        rw [ho] at hoi
        cases hoi
        have := hdep e he hb
        by_cases ee : i = e.on
        · rw [← ee]; simp [hs, hj]
        · rw [getD_set_ne false ee]; exact this
      · rw [getD_set_ne false (fun x => eij x.symm)] at hl
        have := hdc i oi hoi hl e he hb
        by_cases ee : j = e.on
        · rw [← ee]; simp [hs, hj]
        · rw [getD_set_ne false ee]; exact this
    have hcl : ∀ i q, ops[i]? = some q → listed.getD i false = true → ∀ m, waits q m = true → listed.getD m false = true := by
      intro i q hq hli m hm
      unfold waits at hm
      rw [List.any_eq_true] at hm
      obtain ⟨e, he, hh⟩ := hm
      simp only [Bool.and_eq_true, beq_iff_eq] at hh
      rw [← hh.2]
      exact hdc i q hq hli e (by simpa using he) hh.1
    have hw : ∀ i, waits o i = true → listed.getD i false = true := by
      intro i hi
      unfold waits at hi
      rw [List.any_eq_true] at hi
      obtain ⟨e, he, hh⟩ := hi
      simp only [Bool.and_eq_true, beq_iff_eq] at hh
      rw [← hh.2]
      exact hdep e (by simpa using he) hh.1
    refine wpOp_mono ?_ (step j hj _ x a w hun' hfr (fun o' ho' i hi q hq d hd => hv (i, d) (mem_dsOf.2 ⟨q, hq, hd⟩) (hw i (by rw [ho] at ho'; cases ho'; exact hi))) (fun o' ho' i hi => hw i (by rw [ho] at ho'; cases ho'; exact hi)) hcl (fun i q hq d hd hli => hno (i, d) (mem_dsOf.2 ⟨q, hq, hd⟩) hli) hT)
    rintro a' w' ⟨v, ⟨o', ho', rfl⟩, hT'⟩
    rw [ho] at ho'
    cases ho'
    refine ⟨by simpa using hs, hdc', by rw [put_size]; exact ha, ?_, updS x j v, ?_, ?_, ?_, ?_⟩
    · rw [← had]; cases o.dst <;> rfl
    · intro e he
      cases hd : o.dst with
      | none => exact hfr e he
      | some d =>
        rw [put_other _ _ (fun q => he (by rw [← q]; exact List.mem_map.2 ⟨(j, d), mem_dsOf.2 ⟨o, ho, hd⟩, rfl⟩))]
        exact hfr e he
    · rintro ⟨i, d⟩ hp hl
      by_cases e : i = j
      · subst e
        obtain ⟨o', ho', hd⟩ := mem_dsOf.1 hp
        rw [ho] at ho'
        cases ho'
        rw [hd, put_same _ _ (by rw [ha]; exact hds' _ hp)]
        simp [updS]
      · rw [getD_set_ne false (fun y => e y.symm)] at hl
        have hq : a.eval (.tmp d) = updS x j v i := by rw [hv (i, d) hp hl]; simp [updS, e]
        cases hd : o.dst with
        | none => exact hq
        | some d' =>
          have hne : d' ≠ d := by
            intro q
            subst q
            have hp2 : (j, d') ∈ dsOf ops := mem_dsOf.2 ⟨o, ho, hd⟩
            exact e (inj2 _ hnd i j d' hp hp2)
          rw [put_other _ _ hne]
          exact hq
    · rintro ⟨i, d⟩ hp hl
      have e : i ≠ j := by
        intro e
        subst e
        have hli : i < listed.size := by omega
        simp [hli] at hl
      rw [getD_set_ne false (fun y => e y.symm)] at hl
      have hq := hno (i, d) hp hl
      cases hd : o.dst with
      | none => exact hq
      | some d' =>
        have hne : d' ≠ d := by
          intro q
          subst q
          have hp2 : (j, d') ∈ dsOf ops := mem_dsOf.2 ⟨o, ho, hd⟩
          exact e (inj2 _ hnd i j d' hp hp2)
        rw [put_other _ _ hne]
        exact hq
    · have e : (fun i => (listed.setIfInBounds j true).getD i false) = updB (fun i => listed.getD i false) j := by
        funext i
        unfold updB
        by_cases hij : i = j
        · subst hij
          rw [if_pos rfl]
          have hl : i < listed.size := by omega
          simp [hl]
        · rw [if_neg hij, getD_set_ne false (fun y => hij y.symm)]
      rw [e]
      exact hT'
  · rintro listed a w ⟨hs, _, ha, had, x, hfr, hv, _, hT⟩ hall
    have hall' : ∀ j, j < ops.size → listed.getD j false = true := fun j hj => by
      have hl : j < listed.size := by omega
      have := hall j hj
      simp [hl] at this ⊢
      exact this
    have ea : a = putP a0 x (dsOf ops) := by
      refine act_ext (by rw [putP_size, ha, hN]) (by rw [putP_defers, had]) fun e => ?_
      by_cases he : e ∈ (dsOf ops).map (·.2)
      · obtain ⟨p, hp, rfl⟩ := List.mem_map.1 he
        obtain ⟨o, ho, _⟩ := mem_dsOf.1 (show (p.1, p.2) ∈ dsOf ops from hp)
        rw [hv p hp (hall' _ (Array.getElem?_eq_some_iff.1 ho).1), putP_same x _ a0 hnd (fun q hq => by rw [hN]; exact hds' q hq) p hp]
      · rw [hfr e he, putP_other x _ _ he]
    rw [ea]
    exact fin _ x w hall' hT
end Go.Proofs.YtaoncjgllcndmaaDoor

namespace Go.Proofs.YtaoncjgllcndmaaDoor.Frm
open Go.RowKit Gf8 Aes By8 Cel
/- The closure of packed; packed. -/

/-- What lies in packed: the batch in block A, the list's variable in block R. -/
structure Pk (A R : Nat) (b : Array Value) (p : Nat → Nat) (m : Nat) (v : Value) (V W : World) : Prop where
  b : W.heap[A]? = some (.cells b 26)
  o : W.heap[R]? = some (.cells #[v] 30)
  own : W.ownsRow (A + 1) 5 1 v m (bytesL m p)
  bel : Below A V W
  lt : A < R
theorem Pk.rules {A R m : Nat} {b : Array Value} {p : Nat → Nat} {v : Value} {V W : World} (h : Pk A R b p m v V W) (g : Rules V) (hA : 0 < A) : Rules W := g.on h.bel hA
theorem Pk.on {A R m : Nat} {b : Array Value} {p : Nat → Nat} {v : Value} {V W W' : World} (h : Pk A R b p m v V W) (hb : Below W.heap.size W W') : Pk A R b p m v V W' := by
  have l1 := (Array.getElem?_eq_some_iff.1 h.b).1
  have l2 := (Array.getElem?_eq_some_iff.1 h.o).1
  exact ⟨by rw [hb.block _ l1]; exact h.b, by rw [hb.block _ l2]; exact h.o, ownsRow_below h.own hb, h.bel.trans (hb.mono (by omega)), h.lt⟩
/-- The list has grown. -/
theorem Pk.grew {A R m m' : Nat} {b : Array Value} {p : Nat → Nat} {v r : Value} {V W W' : World} (h : Pk A R b p m v V W) (hg : Grew (A + 1) v W r W') (own : W'.ownsRow (A + 1) 5 1 r m' (bytesL m' p)) : Pk A R b p m' r V (W'.setRow R #[r]) := by
  have l1 := (Array.getElem?_eq_some_iff.1 h.b).1
  have l2 := (Array.getElem?_eq_some_iff.1 h.o).1
  have lt := h.lt
  have nA : ¬ v.ownBlock = some A := fun e => by have := (h.own.lt A e).1; omega
  have nR : ¬ v.ownBlock = some R := fun e => (own_ne h.own h.o (by decide)) e.symm
  have oR : W'.heap[R]? = some (.cells #[v] 30) := by rw [hg.sv.block _ l2 nR]; exact h.o
  have bel : Below A V W' := h.bel.trans ⟨hg.sv.os, hg.sv.tape, hg.sv.output, hg.sv.size, fun k hk => hg.sv.block k (by omega) fun e => by have := (h.own.lt k e).1; omega⟩
  exact ⟨by rw [setRow_other _ _ _ _ (by omega), hg.sv.block _ l1 nA]; exact h.b, setRow_heap _ _ _ _ _ _ oR, ownsRow_row own oR (by decide) _, below4 bel (by omega) _, lt⟩
section
variable {o : Oper} {a : Act} {w : World}
theorem execLdL {y : Operand} {b f : Nat} {v : Value} (ho : o.op = .load 30 y) (hx : a.eval y = .pointer (some ⟨b, f, none⟩)) (hc : w.cell? ⟨b, f, none⟩ = some v) : (execOp a.eval o).run Tryd.prog w = .ok (.value v) w := by
  unfold execOp
  simp only [ho, hx]
  simp [go_sem, hc]
theorem execStL {x y : Operand} {R : Nat} {u v : Value} (ho : o.op = .store 30 x y) (hx : a.eval x = .pointer (some ⟨R, 0, none⟩)) (hy : a.eval y = v) (h : w.heap[R]? = some (.cells #[u] 30)) (h1 : v.oneCell' = true) : (execOp a.eval o).run Tryd.prog w = .ok .skip (w.setRow R #[v]) :=
  execStV ho hx hy h (by show 0 < 1; decide) (by kernel_rfl) h1 rfl
theorem execClo2 {x y z : Operand} {g : Nat} {lb : Array Value} {vy vz : Value} {ts : Array TypeId} {fn : Func} (hf : Tryd.prog.funcs[g]? = some fn) (hname : (fn.name == "runtime.NumGoroutine") = false) (hb : fn.body.isSome = true) (ho : o.op = .call { callee := .value x, args := #[y, z], argTypes := ts }) (hx : a.eval x = .func (.func g) #[] lb) (hy : a.eval y = vy) (hz : a.eval z = vz) : (execOp a.eval o).run Tryd.prog w = .ok (.enter g (#[vy, vz] ++ lb)) w := by
  have h1 : fn.name ≠ "runtime.NumGoroutine" := by simpa using hname
  obtain ⟨c, hc⟩ := Option.isSome_iff_exists.1 hb
  have h2 : ∀ args, (callFunc g args).run Tryd.prog w = .ok (.enter g args) w := by intro args; simp [callFunc, hf, h1, hc]
  unfold execOp
  simp only [ho, resolve, hx, hy, hz, List.map_toArray, List.map_cons, List.map_nil, Sem.run_bind]
  simp [invoke, Deferred.ofValue, h2]
end
theorem Pk.cell {A R m : Nat} {b : Array Value} {p : Nat → Nat} {v : Value} {V W : World} (h : Pk A R b p m v V W) : W.cell? ⟨R, 0, none⟩ = some v := by
  rw [cell_of_row _ _ _ _ _ _ h.o]
  rfl
set_option maxRecDepth 20000 in
set_option maxHeartbeats 400000 in
theorem add_any (A R m f n : Nat) (b : Array Value) (p : Nat → Nat) (v : Value) (V W : World) (h : Pk A R b p m v V W) (g : Rules V) (hA : 0 < A) (hf : f < 10) (h8 : fsz f ≤ 8) (hn : n < 18446744073709551616) (hm : m ≤ 100000000) (hp : ∀ j, j < fsz f → p (m + j) = numF n (fsz f) j) :
    Calls Tryd.prog 40 #[.int .i64 (f : Int), .int .u64 (n : Int), .pointer (some ⟨R, 0, none⟩)] W fun e w' => e = .returned (.tuple #[]) ∧ ∃ r, Pk A R b p (m + fsz f) r V w' := by
  have HB : Hid (Pk A R b p m v V W ∧ Rules V ∧ 0 < A ∧ f < 10 ∧ fsz f ≤ 8 ∧ n < 18446744073709551616 ∧ m ≤ 100000000 ∧ ∀ j, j < fsz f → p (m + j) = numF n (fsz f) j) := ⟨h, g, hA, hf, h8, hn, hm, hp⟩
  clear h g hA hf h8 hn hm hp
  go_enter Tryd.func40, Tryd.ntmps40
  go_wp2_with fail
  refine wp_region_detX 12 [(0, 5), (1, 6), (2, 7), (3, 8), (4, 9), (5, 10), (6, 11)] (fun l x W' => (l 0 = true → x 0 = v) ∧ (l 1 = true → x 1 = .int .u64 (n : Int)) ∧ (l 2 = true → x 2 = .int .i64 (f : Int)) ∧ (l 3 = true → x 3 = .pointer (some ⟨0, f * 4, none⟩)) ∧ (l 4 = true → x 4 = .pointer (some ⟨0, f * 4, none⟩)) ∧ (l 5 = true → x 5 = .int .i64 (fsz f : Nat)) ∧
    ((l 6 = false ∧ Pk A R b p m v V W') ∨ (l 6 = true ∧ l 7 = false ∧ ∃ W1, Pk A R b p m v V W1 ∧ Grew (A + 1) v W1 (x 6) W' ∧ W'.ownsRow (A + 1) 5 1 (x 6) (m + fsz f) (bytesL (m + fsz f) p)) ∨ (l 7 = true ∧ l 6 = true ∧ Pk A R b p (m + fsz f) (x 6) V W'))) (fun _ => undef) (by kernel_rfl) (by kernel_rfl) rfl (by kernel_rfl) (by decide) (by decide) ?_ ?_ ?_
  · exact ⟨fun q => (by cases q), fun q => (by cases q), fun q => (by cases q), fun q => (by cases q), fun q => (by cases q), fun q => (by cases q), Or.inl ⟨rfl, HB.out.1.on (Below.refl _ _).drew⟩⟩
  · intro j hj l x a W' hl hf hdep hl2 hcl _ hT
    obtain ⟨_, g, hA, hf10, h8, hn, hm, hp⟩ := HB.out
    obtain ⟨t0, t1, t2, t3, t4, t5, t6⟩ := hT
    have no6 : ∀ i, (i = 0 ∨ i = 5) → l i = false → l 6 = false ∧ Pk A R b p m v V W' := by
      intro i hi hli
      have n6 : l 6 = false := by
        cases h6 : l 6 with
        | false => rfl
        | true =>
          rcases hi with rfl | rfl
          · have := hcl 6 _ rfl h6 0 rfl
            rw [hli] at this
            cases this
          · have := hcl 6 _ rfl h6 5 rfl
            rw [hli] at this
            cases this
      refine ⟨n6, ?_⟩
      rcases t6 with ⟨_, pk⟩ | ⟨q, _⟩ | ⟨_, q, _⟩
      · exact pk
      · rw [n6] at q; cases q
      · rw [n6] at q; cases q
    match j, hj with
    | 0, _ =>
      obtain ⟨n6, pk⟩ := no6 0 (Or.inl rfl) hl
      exact stepV rfl rfl (execLdL rfl (hf 2 (by decide)) pk.cell) ⟨_, ⟨_, rfl, rfl⟩, fun _ => rfl, t1, t2, t3, t4, t5, Or.inl ⟨n6, pk⟩⟩
    | 1, _ => exact stepV rfl rfl (execMvB rfl (hf 1 (by decide))) ⟨_, ⟨_, rfl, rfl⟩, t0, fun _ => rfl, t2, t3, t4, t5, t6⟩
    | 2, _ => exact stepV rfl rfl (execMvB rfl (hf 0 (by decide))) ⟨_, ⟨_, rfl, rfl⟩, t0, t1, fun _ => rfl, t3, t4, t5, t6⟩
    | 3, _ => exact stepV rfl rfl (execIdxR rfl ((hdep _ rfl 2 rfl _ rfl _ rfl).trans (t2 (hl2 _ rfl 2 rfl))) hf10) ⟨_, ⟨_, rfl, rfl⟩, t0, t1, t2, fun _ => rfl, t4, t5, t6⟩
    | 4, _ => exact stepV rfl rfl (execFldR rfl ((hdep _ rfl 3 rfl _ rfl _ rfl).trans (t3 (hl2 _ rfl 3 rfl)))) ⟨_, ⟨_, rfl, rfl⟩, t0, t1, t2, t3, fun _ => rfl, t5, t6⟩
    | 5, _ =>
      obtain ⟨n6, pk⟩ := no6 5 (Or.inr rfl) hl
      exact stepV rfl rfl (execLdI rfl ((hdep _ rfl 4 rfl _ rfl _ rfl).trans (t4 (hl2 _ rfl 4 rfl))) ((pk.rules g hA).z f hf10)) ⟨_, ⟨_, rfl, rfl⟩, t0, t1, t2, t3, t4, fun _ => rfl, Or.inl ⟨n6, pk⟩⟩
    | 6, _ =>
      rcases t6 with ⟨_, pk⟩ | ⟨q, _⟩ | ⟨_, q, _⟩
      · exact stepC rfl rfl (execCall3 Tryd.func41 (by kernel_rfl) (by kernel_rfl) rfl ((hdep _ rfl 0 rfl _ rfl _ rfl).trans (t0 (hl2 _ rfl 0 rfl))) ((hdep _ rfl 1 rfl _ rfl _ rfl).trans (t1 (hl2 _ rfl 1 rfl))) ((hdep _ rfl 5 rfl _ rfl _ rfl).trans (t5 (hl2 _ rfl 5 rfl)))) (with_any n (fsz f) m (A + 1) p v W' hn h8 pk.own (by have := (Array.getElem?_eq_some_iff.1 pk.o).1; have := pk.lt; omega) hm hp) fun e w' h => by
          obtain ⟨r, e1, own, gr⟩ := h
          refine ⟨_, e1, _, ⟨_, rfl, rfl⟩, t0, t1, t2, t3, t4, t5, Or.inr (Or.inl ⟨rfl, ?_, W', pk, gr, own⟩)⟩
          show l 7 = false
          cases h7 : l 7 with
          | false => rfl
          | true =>
            have := hcl 7 _ rfl h7 6 rfl
            rw [hl] at this
            cases this
      · rw [hl] at q; cases q
      · rw [hl] at q; cases q
    | 7, _ =>
      rcases t6 with ⟨q, _⟩ | ⟨h6, _, W1, pk, gr, own⟩ | ⟨q, _⟩
      · have := hl2 _ rfl 6 rfl
        rw [q] at this
        cases this
      · have oR : W'.heap[R]? = some (.cells #[v] 30) := by
          rw [gr.sv.block _ (Array.getElem?_eq_some_iff.1 pk.o).1 (fun e => (own_ne pk.own pk.o (by decide)) e.symm)]
          exact pk.o
        exact stepS rfl rfl (execStL rfl (hf 2 (by decide)) (hdep _ rfl 6 rfl _ rfl _ rfl) oR (own_oneCell own)) ⟨_, ⟨_, rfl, rfl⟩, t0, t1, t2, t3, t4, t5, Or.inr (Or.inr ⟨rfl, h6, pk.grew gr own⟩)⟩
      · rw [hl] at q; cases q
    | n + 8, h => exact absurd h (by simp)
  · intro l x W' hall hT
    obtain ⟨_, _, _, _, _, _, t6⟩ := hT
    have h6 := hall 6 (by simp)
    have h7 := hall 7 (by simp)
    have pk : Pk A R b p (m + fsz f) (x 6) V W' := by
      rcases t6 with ⟨q, _⟩ | ⟨_, q, _⟩ | ⟨_, _, pk⟩
      · rw [h6] at q; cases q
      · rw [h7] at q; cases q
      · exact pk
    have PK : Hid (_) := pk
    clear hall t6 h6 h7 pk HB
    simp only [putP, Act.put, List.setIfInBounds_toArray, List.set_cons_succ, List.set_cons_zero]
    go_wp2
    go_end0
    exact ⟨rfl, _, PK.out⟩
end Go.Proofs.YtaoncjgllcndmaaDoor.Frm
