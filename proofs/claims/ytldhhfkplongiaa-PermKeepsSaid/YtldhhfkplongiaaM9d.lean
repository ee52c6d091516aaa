import Derived.Test.YtldhhfkplongiaaM9c
import Derived.Lib.SliceRun
namespace Go.Proofs.Ytldhhfkplongiaa.Prm
open Go.RowKit Gf8 Aes By8 Cel Cf Tap Drw
/- Package perm as it landed: slices.Delete of ints, Unrank. Written by tools/mkM9d.py. -/

theorem grown_then {a w w' : World} {row : Option Nat} (h : a.grownBy w row) (k : w.grownBy w' row) : a.grownBy w' row :=
  ⟨k.os.trans h.os, k.tape.trans h.tape, k.output.trans h.output, Nat.le_trans h.size k.size, fun j hj hne => (k.block j (Nat.lt_of_lt_of_le hj h.size) hne).trans (h.block j hj hne)⟩
theorem sliced_some (A : Addr) (l h m : Nat) : ∃ ad c, sliced (some A) l h m 1 = .slice (some ad) (h - l) c := by
  unfold sliced
  by_cases q : m = l
  · rw [if_pos q]; exact ⟨_, _, rfl⟩
  · rw [if_neg q]; exact ⟨_, _, rfl⟩
section
variable {o : Oper} {a : Act} {w : World}
theorem execSl3 {x l h m : Operand} {ty : TypeId} {v vl vh vm r : Value} (ho : o.op = .slice ty x (some l) (some h) (some m)) (hx : a.eval x = v) (hl : a.eval l = vl) (hh : a.eval h = vh) (hm : a.eval m = vm)
    (hr : (Instr.sliceAt ty v (some vl) (some vh) (some vm)).run Try.prog w = .ok r w) : (execOp a.eval o).run Try.prog w = .ok (.value r) w := by
  unfold execOp
  simp only [ho, hx, hl, hh, hm, Option.map_some, Sem.run_bind, hr, Result.andThen_ok, Sem.run_pure]
theorem execSlLH9 {x l h : Operand} {ty : TypeId} {v vl vh r : Value} (ho : o.op = .slice ty x (some l) (some h) none) (hx : a.eval x = v) (hl : a.eval l = vl) (hh : a.eval h = vh)
    (hr : (Instr.sliceAt ty v (some vl) (some vh) none).run Try.prog w = .ok r w) : (execOp a.eval o).run Try.prog w = .ok (.value r) w := by
  unfold execOp
  simp only [ho, hx, hl, hh, Option.map_some, Option.map_none, Sem.run_bind, hr, Result.andThen_ok, Sem.run_pure]
end
theorem sl_3I (g len cap l h m : Nat) (h1 : l ≤ h) (h2 : h ≤ m) (h3 : m ≤ cap) (W : World) : (Instr.sliceAt 22 (.slice (some ⟨g, 0, none⟩) len cap) (some (.int .i64 (l : Int))) (some (.int .i64 (h : Int))) (some (.int .i64 (m : Int)))).run Try.prog W = .ok (sliced (some ⟨g, 0, none⟩) l h m 1) W := by
  have e1 : (l : Int) ≤ h := by omega
  have e2 : (h : Int) ≤ m := by omega
  have e3 : (m : Int) ≤ cap := by omega
  obtain ⟨i, i1, _, i3, _⟩ := infoI
  simp [Instr.sliceAt, Instr.slice, run_underlying Try.underlying22, Instr.sliceBounds, run_sliceBound, sliced, h1, h2, h3, sizeOf, typeInfo, i1, i3]
theorem sl_lhI (g len cap l h : Nat) (h1 : l ≤ h) (h2 : h ≤ cap) (W : World) : (Instr.sliceAt 22 (.slice (some ⟨g, 0, none⟩) len cap) (some (.int .i64 (l : Int))) (some (.int .i64 (h : Int))) none).run Try.prog W = .ok (sliced (some ⟨g, 0, none⟩) l h cap 1) W := by
  have e1 : (l : Int) ≤ h := by omega
  have e2 : (h : Int) ≤ cap := by omega
  obtain ⟨i, i1, _, i3, _⟩ := infoI
  simp [Instr.sliceAt, Instr.slice, run_underlying Try.underlying22, Instr.sliceBounds, run_sliceBound, sliced, h1, h2, sizeOf, typeInfo, i1, i3]
theorem sl_endI (g cap M : Nat) (h3 : M + 1 ≤ cap) (W : World) : (Instr.sliceAt 22 (.slice (some ⟨g, 0, none⟩) M cap) (some (.int .i64 (M : Int))) (some (.int .i64 ((M + 1 : Nat) : Int))) none).run Try.prog W = .ok (.slice (some ⟨g, M, none⟩) 1 (cap - M)) W := by
  rw [sl_lhI g M cap M (M + 1) (by omega) h3 W]
  unfold sliced
  rw [if_neg (by omega), show M + 1 - M = 1 by omega]
  simp [Addr.add]
  exact fun h => h.symm
theorem own_takeI {W : World} {B n i g c : Nat} {f : Nat → Int} (h : W.ownsRow B 3 1 (.slice (some ⟨g, 0, none⟩) n c) n (intsL n f)) (hi : i ≤ n) : W.ownsRow B 3 1 (.slice (some ⟨g, 0, none⟩) i c) i (intsL i f) := by
  refine ⟨by rw [intsL_len, Nat.mul_one], ?_⟩
  rcases h.2 with ⟨e, _⟩ | ⟨g', cap', cur, e, hB, hg, h1, h2, h3, h4⟩
  · cases e
  · injection e with e1 e2 e3
    injection e1 with e1
    injection e1 with e1 _ _
    subst e1
    subst e3
    refine Or.inr ⟨g, c, cur, rfl, hB, hg, by omega, h2, h3, ?_⟩
    apply List.ext_getElem?
    intro j
    by_cases hj : j < i
    · have h5 : (cur.toList.take (n * 1))[j]? = (intsL n f)[j]? := by rw [h4]
      rw [List.getElem?_take_of_lt (by omega), intsL_get (by omega)] at h5
      rw [List.getElem?_take_of_lt (by omega), intsL_get hj]
      exact h5
    · rw [List.getElem?_eq_none (by simp; omega), List.getElem?_eq_none (by rw [intsL_len]; omega)]
theorem own_past {W : World} {B n g c k : Nat} {f : Nat → Int} {z : Value} (h : W.ownsRow B 3 1 (.slice (some ⟨g, 0, none⟩) n c) n (intsL n f)) (hk : n ≤ k) : (W.setCell ⟨g, k, none⟩ z).ownsRow B 3 1 (.slice (some ⟨g, 0, none⟩) n c) n (intsL n f) := by
  refine ⟨by rw [intsL_len, Nat.mul_one], ?_⟩
  rcases h.2 with ⟨e, _⟩ | ⟨g', cap', cur, e, hB, hg, h1, h2, h3, h4⟩
  · cases e
  · injection e with e1 e2 e3
    injection e1 with e1
    injection e1 with e1 _ _
    subst e1
    subst e3
    refine Or.inr ⟨g, c, cur.setIfInBounds k z, rfl, hB, heap4 _ hg, h1, h2, by simpa using h3, ?_⟩
    rw [← h4]
    apply List.ext_getElem?
    intro j
    by_cases hj : j < n
    · rw [List.getElem?_take_of_lt (by omega), List.getElem?_take_of_lt (by omega), Array.getElem?_toList, Array.getElem?_setIfInBounds, if_neg (by omega), Array.getElem?_toList]
    · rw [List.getElem?_eq_none (by simp; omega), List.getElem?_eq_none (by simp; omega)]
theorem del_cat (f : Nat → Int) (I j : Nat) : catI I f (fun j => f (I + 1 + j)) j = (fun j => if j < I then f j else f (j + 1)) j := by
  unfold catI
  by_cases h : j < I
  · rw [if_pos h]; exact (if_pos h).symm
  · rw [if_neg h]
    show f (I + 1 + (j - I)) = if j < I then f j else f (j + 1)
    rw [if_neg h, show I + 1 + (j - I) = j + 1 by omega]
/-- append within a row's room: where the answer lies is known. -/
theorem stepAppD {ops : Array Oper} {Q : Exit → Act → World → Prop} {K : Act → World → Prop} {j : Nat} {o : Oper} {a : Act} {W : World} {s x : Operand} {B i m g c N : Nat} {u : Value} {f q F : Nat → Int} (hos : ops[j]? = some o) (hgd : Region.wanted o (yielded ops a.tmps) = true)
    (ho : o.op = .call { callee := .builtin .append, args := #[s, x], argTypes := #[22, 22] }) (hs : a.eval s = .slice (some ⟨g, 0, none⟩) i c) (hx : a.eval x = u) (hown : W.ownsRow B 3 1 (.slice (some ⟨g, 0, none⟩) i c) i (intsL i f)) (hu : SliceI W u m q) (hsome : ∃ ad c', u = .slice (some ad) m c')
    (hN : i + m = N) (hroom : N ≤ c) (hn : N ≤ 17592186044416) (hF : ∀ j, j < N → catI i f q j = F j) (hB : B ≤ W.heap.size)
    (hK : ∀ W', W'.ownsRow B 3 1 (.slice (some ⟨g, 0, none⟩) N c) N (intsL N F) → W.grownBy W' (some g) → K (a.put o.dst (.slice (some ⟨g, 0, none⟩) N c)) W') : wpOp Try.prog ops Q j K a W := by
  subst hN
  obtain ⟨t, i1, i2, i3, i4⟩ := infoI
  obtain ⟨ad, c', rfl⟩ := hsome
  obtain ⟨⟨ao, cap, e, _, _, hc⟩, _⟩ := hu
  injection e with ea _ _
  subst ea
  have hnews : ∀ j z, (intsL m q)[j]? = some z → W.cell? (ad.add j) = some z := fun j z hz => by
    have hj : j < m := by have := (List.getElem?_eq_some_iff.1 hz).1; rw [intsL_len] at this; exact this
    obtain ⟨b, off, e, _, e3⟩ := hc (by omega)
    obtain rfl : ad = ⟨b, off, none⟩ := Option.some.inj e
    rw [Go.WideShapes.add_plain, e3 j hj]
    rw [intsL_get hj] at hz
    exact hz
  obtain ⟨v', W', run, q1, q2⟩ := execAppO (W := W) (m := m) (c := c') (ad := ad) (news := intsL m q) ho Try.underlying22 i1 i2 i3 i4 rfl (by decide) hs hown hx (by rw [intsL_len, Nat.mul_one]) hnews (intsL_one _ _) (by unfold maxLen; omega) (by omega) hB
  have hown2 := hown.2
  rcases hown2 with ⟨e, _⟩ | ⟨g', cap', cur, e, _, hg', hnc, hcm, hcs, _⟩
  · cases e
  · injection e with e1 e2 e3
    injection e1 with e1
    injection e1 with e1 _ _
    subst e1
    subst e3
    obtain ⟨W2, hr⟩ : ∃ W2, (Builtin.append_ #[22, 22] o.type #[.slice (some ⟨g, 0, none⟩) i c, .slice (some ad) m c']).run Try.prog W = .ok (.slice (some ⟨g, 0, none⟩) (i + m) c) W2 := ⟨_, run_append_room (P := Try.prog) W 22 o.type 3 t Try.underlying22 i1 g i c cur hg' ad m c' (intsL m q) (by rw [intsL_len, i3, Nat.mul_one]) hnews (intsL_one _ _) hroom (by rw [hcs, i3, intsL_len]; omega)⟩
    have r3 : (execOp a.eval o).run Try.prog W = .ok (.value (.slice (some ⟨g, 0, none⟩) (i + m) c)) W2 := by
      unfold execOp
      simp only [ho, resolve, invoke, builtin, Sem.run_bind, Sem.run_pure, Result.andThen_ok, List.map_toArray, List.map_cons, List.map_nil, hs, hx, hr]
    have r4 := run.symm.trans r3
    injection r4 with e1 e2
    injection e1 with e1
    subst e1
    rw [intsL_app, intsL_congr hF] at q1
    exact stepV hos hgd run (hK W' q1 q2)
/-- clear of the one element behind a row's end. -/
theorem stepClr {ops : Array Oper} {Q : Exit → Act → World → Prop} {K : Act → World → Prop} {j : Nat} {o : Oper} {a : Act} {W : World} {x : Operand} {B M g c cc : Nat} {f : Nat → Int} (hos : ops[j]? = some o) (hgd : Region.wanted o (yielded ops a.tmps) = true)
    (ho : o.op = .call { callee := .builtin .clear, args := #[x], argTypes := #[22] }) (hd : o.dst = none) (hx : a.eval x = .slice (some ⟨g, M, none⟩) 1 cc) (hown : W.ownsRow B 3 1 (.slice (some ⟨g, 0, none⟩) M c) M (intsL M f)) (hc : M + 1 ≤ c)
    (hK : K a (W.setCell ⟨g, M, none⟩ (.int .i64 0))) : wpOp Try.prog ops Q j K a W := by
  rcases hown.2 with ⟨e, _⟩ | ⟨g', cap', cur, e, _, hg, hnc, hcm, hcs, _⟩
  · cases e
  · injection e with e1 e2 e3
    injection e1 with e1
    injection e1 with e1 _ _
    subst e1
    subst e3
    have hz : ∀ w, (zeroValue 3).run Try.prog w = .ok (.int .i64 0) w := by intro w; simp [go_sem]
    have hr := Go.Lib.run_clear_slice (P := Try.prog) W 22 3 o.type (.int .i64 0) Try.underlying22 hz rfl rfl g M 1 cc (by decide) (fun j hj => by
      rw [cell_of_row _ _ _ _ _ _ hg]
      rw [Array.getElem?_eq_getElem (by omega)]
      rfl) (fun j _ => frozen4 hg)
    refine stepV hos hgd (v := .tuple #[]) (w' := W.setCell ⟨g, M, none⟩ (.int .i64 0)) ?_ (by rw [hd]; exact hK)
    unfold execOp
    simp only [ho, resolve, invoke, builtin, Sem.run_bind, Sem.run_pure, Result.andThen_ok, List.map_toArray, List.map_cons, List.map_nil, hx, hr]
    rfl
theorem ul_fits {d : Nat → Int} {n i j : Nat} (hi : i ≤ n) (hd : ∀ k, k < n → 0 ≤ d k ∧ d k < (n : Int) - k) (hj : j < n - i) (hn : n ≤ 17592186044416) : -9223372036854775808 ≤ (fun j => (ul (gN d) i j : Int)) j ∧ (fun j => (ul (gN d) i j : Int)) j < 9223372036854775808 := by
  have h := ul_lt (d := gN d) (n := n) hi (fun k hk => by have := hd k (by omega); show (d k).toNat < n - k; omega) hj
  show -9223372036854775808 ≤ ((ul (gN d) i j : Nat) : Int) ∧ ((ul (gN d) i j : Nat) : Int) < 9223372036854775808
  omega
theorem ul_del {d : Nat → Int} {w i : Nat} (hg : gN d i = w) (j : Nat) : (fun j => if j < w then (fun j => (ul (gN d) i j : Int)) j else (fun j => (ul (gN d) i j : Int)) (j + 1)) j = (fun j => (ul (gN d) (i + 1) j : Int)) j := by
  show (if j < w then ((ul (gN d) i j : Nat) : Int) else ((ul (gN d) i (j + 1) : Nat) : Int)) = ((rem (ul (gN d) i) (gN d i) j : Nat) : Int)
  rw [hg]
  by_cases q : j < w
  · rw [if_pos q, rem_lo q]
  · rw [if_neg q, rem_hi (by omega)]
section
variable {V W W' : World} {lv lw : Value} {nu nl nl' g gu cu : Nat} {fu fu' fl fl' : Nat → Int} {k : Nat} {z : Value}
theorem Two.put (h : Two V W (.slice (some ⟨gu, 0, none⟩) nu cu) nu fu lv nl fl) (own : (W.setCell ⟨gu, k, none⟩ z).ownsRow V.heap.size 3 1 (.slice (some ⟨gu, 0, none⟩) nu cu) nu (intsL nu fu')) : Two V (W.setCell ⟨gu, k, none⟩ z) (.slice (some ⟨gu, 0, none⟩) nu cu) nu fu' lv nl fl :=
  ⟨own, own_offB h.rl (h.ap gu rfl), h.ap⟩
theorem Two.del {u : Value} {c : Nat} (h : Two V W u nu fu (.slice (some ⟨g, 0, none⟩) nl c) nl fl) (own : W'.ownsRow V.heap.size 3 1 (.slice (some ⟨g, 0, none⟩) nl' c) nl' (intsL nl' fl')) (gr : W.grownBy W' (some g)) : Two V W' u nu fu (.slice (some ⟨g, 0, none⟩) nl' c) nl' fl' :=
  ⟨ownW_grown h.ru gr (fun k q e => h.ap k q e), own, fun k q e => h.ap k q e⟩
end
set_option maxRecDepth 100000 in
set_option maxHeartbeats 4000000 in
/-- slices.Delete of one element of a row of one's own. -/
theorem pdelete (f : Nat → Int) (M I g c : Nat) (v : Value) (U V : World) (ev : v = .slice (some ⟨g, 0, none⟩) (M + 1) c) (BB : Below U.heap.size U V) (FO : V.ownsRow U.heap.size 3 1 v (M + 1) (intsL (M + 1) f)) (hfit : ∀ j, j < M + 1 → -9223372036854775808 ≤ f j ∧ f j < 9223372036854775808) (hI : I ≤ M) (hM17 : M + 1 ≤ 17592186044416) :
    Calls Try.prog 22 #[v, .int .i64 ((I : Nat) : Int), .int .i64 ((I + 1 : Nat) : Int)] V fun e w' => e = .returned (.slice (some ⟨g, 0, none⟩) M c) ∧ w'.ownsRow U.heap.size 3 1 (.slice (some ⟨g, 0, none⟩) M c) M (intsL M (fun j => if j < I then f j else f (j + 1))) ∧ V.grownBy w' (some g) ∧ Below U.heap.size U w' := by
  subst ev
  have hgB : U.heap.size ≤ g := (FO.lt g rfl).1
  have hcap := own_cap FO
  have FG : V.grownBy V (some g) := World.grownBy.refl _ _
  go_enter Try.func22, Try.ntmps22
  refine wp_seq ?_
  refine wp_region_sqK 33 [(0, 6)] (fun i_ => match i_ with | 0 => .slice none 0 0 | _ => undef) rfl (by kernel_rfl) (by decide) (by decide) ?_ ?_
  · intro i_ hi_ a hf hv hn
    match i_, hi_ with
    | 0, _ => exact stepV rfl rfl (execAsgB rfl rfl) ⟨⟨_, rfl, rfl⟩, rfl⟩
    | k_ + 1, h_ => exact absurd h_ (by simp)
  intro a h1 h2 h3 h4
  have t0 : a.eval (.tmp 0) = .slice (some ⟨g, 0, none⟩) (M + 1) c := (h3 0 (by decide)).trans rfl
  have t1 : a.eval (.tmp 1) = .int .i64 ((I : Nat) : Int) := (h3 1 (by decide)).trans rfl
  have t2 : a.eval (.tmp 2) = .int .i64 ((I + 1 : Nat) : Int) := (h3 2 (by decide)).trans rfl
  have A : a.tmps.size = 33 ∧ a.defers = [] := ⟨h1, h2⟩
  have BW : Below V.heap.size V V := Below.refl _ _
  clear h1 h2 h3 h4
  clear BW
  refine wp_seq ?_
  refine wp_region_sq (σ := Unit) 33 [(0, 8), (1, 9), (2, 10), (3, 11), (4, 12), (5, 13)] (fun j_ s X => match j_ with | 0 => Below U.heap.size U X ∧ (X.ownsRow U.heap.size 3 1 (.slice (some ⟨g, 0, none⟩) (M + 1) c) (M + 1) (intsL (M + 1) (f))) ∧ (V.grownBy X (some g)) | 1 => Below U.heap.size U X ∧ (X.ownsRow U.heap.size 3 1 (.slice (some ⟨g, 0, none⟩) (M + 1) c) (M + 1) (intsL (M + 1) (f))) ∧ (V.grownBy X (some g)) | 2 => Below U.heap.size U X ∧ (X.ownsRow U.heap.size 3 1 (.slice (some ⟨g, 0, none⟩) (M + 1) c) (M + 1) (intsL (M + 1) (f))) ∧ (V.grownBy X (some g)) | 3 => Below U.heap.size U X ∧ (X.ownsRow U.heap.size 3 1 (.slice (some ⟨g, 0, none⟩) (M + 1) c) (M + 1) (intsL (M + 1) (f))) ∧ (V.grownBy X (some g)) | 4 => Below U.heap.size U X ∧ (X.ownsRow U.heap.size 3 1 (.slice (some ⟨g, 0, none⟩) (M + 1) c) (M + 1) (intsL (M + 1) (f))) ∧ (V.grownBy X (some g)) | 5 => Below U.heap.size U X ∧ (X.ownsRow U.heap.size 3 1 (.slice (some ⟨g, 0, none⟩) (M + 1) c) (M + 1) (intsL (M + 1) (f))) ∧ (V.grownBy X (some g)) | _ => Below U.heap.size U X ∧ (X.ownsRow U.heap.size 3 1 (.slice (some ⟨g, 0, none⟩) (M + 1) c) (M + 1) (intsL (M + 1) (f))) ∧ (V.grownBy X (some g))) (fun s => fun i_ => match i_ with | 0 => .slice (some ⟨g, 0, none⟩) (M + 1) c | 1 => .int .i64 ((I : Nat) : Int) | 2 => .int .i64 ((I + 1 : Nat) : Int) | 3 => .slice (some ⟨g, 0, none⟩) (M + 1) c | 4 => .int .i64 ((M + 1 : Nat) : Int) | 5 => sliced (some ⟨g, 0, none⟩) I (I + 1) (M + 1) 1 | _ => undef) () A.1 (by kernel_rfl) (by decide) (by decide) ⟨BB, FO, FG⟩ ?_ ?_
  · intro i_ hi_ s a X hf hv hn hS
    match i_, hi_ with
    | 0, _ => exact stepV rfl rfl (execMvB rfl ((hf 0 (by decide)).trans t0)) ⟨s, ⟨_, rfl, rfl⟩, hS, fun _ _ => rfl⟩
    | 1, _ => exact stepV rfl rfl (execMvB rfl ((hf 1 (by decide)).trans t1)) ⟨s, ⟨_, rfl, rfl⟩, hS, fun _ _ => rfl⟩
    | 2, _ => exact stepV rfl rfl (execMvB rfl ((hf 2 (by decide)).trans t2)) ⟨s, ⟨_, rfl, rfl⟩, hS, fun _ _ => rfl⟩
    | 3, _ => exact stepV rfl rfl (execMvB rfl ((hf 0 (by decide)).trans t0)) ⟨s, ⟨_, rfl, rfl⟩, hS, fun _ _ => rfl⟩
    | 4, _ => exact stepV rfl rfl (execLenI (len := M + 1) rfl (hv 3 (by omega) _ rfl _ rfl) ⟨_, _, rfl⟩) ⟨s, ⟨_, rfl, rfl⟩, hS, fun _ _ => rfl⟩
    | 5, _ => exact stepV rfl rfl (execSl3 rfl (hv 0 (by omega) _ rfl _ rfl) (hv 1 (by omega) _ rfl _ rfl) (hv 2 (by omega) _ rfl _ rfl) (hv 4 (by omega) _ rfl _ rfl) (sl_3I g _ c I (I + 1) (M + 1) (by omega) (by omega) hcap X)) ⟨s, ⟨_, rfl, rfl⟩, hS, fun _ _ => rfl⟩
    | k_ + 6, h_ => exact absurd h_ (by simp)
  rintro _ a X1 h1 h2 h3 h4 hS
  clear BB
  clear FO
  clear FG
  replace hS : Below U.heap.size U X1 ∧ (X1.ownsRow U.heap.size 3 1 (.slice (some ⟨g, 0, none⟩) (M + 1) c) (M + 1) (intsL (M + 1) (f))) ∧ (V.grownBy X1 (some g)) := hS
  obtain ⟨BB, FO, FG⟩ := hS
  replace t0 := (h3 0 (by decide)).trans t0
  replace t1 := (h3 1 (by decide)).trans t1
  replace t2 := (h3 2 (by decide)).trans t2
  replace A := (⟨h1, h2.trans A.2⟩ : a.tmps.size = 33 ∧ a.defers = [])
  clear h1 h2 h3 h4
  refine wp_seq ?_
  refine wp_seq ?_
  refine wp_region_sq (σ := Unit) 33 [(0, 14), (1, 15), (2, 16)] (fun j_ s X => match j_ with | 0 => Below U.heap.size U X ∧ (X.ownsRow U.heap.size 3 1 (.slice (some ⟨g, 0, none⟩) (M + 1) c) (M + 1) (intsL (M + 1) (f))) ∧ (V.grownBy X (some g)) | 1 => Below U.heap.size U X ∧ (X.ownsRow U.heap.size 3 1 (.slice (some ⟨g, 0, none⟩) (M + 1) c) (M + 1) (intsL (M + 1) (f))) ∧ (V.grownBy X (some g)) | 2 => Below U.heap.size U X ∧ (X.ownsRow U.heap.size 3 1 (.slice (some ⟨g, 0, none⟩) (M + 1) c) (M + 1) (intsL (M + 1) (f))) ∧ (V.grownBy X (some g)) | _ => Below U.heap.size U X ∧ (X.ownsRow U.heap.size 3 1 (.slice (some ⟨g, 0, none⟩) (M + 1) c) (M + 1) (intsL (M + 1) (f))) ∧ (V.grownBy X (some g))) (fun s => fun i_ => match i_ with | 0 => .int .i64 ((I : Nat) : Int) | 1 => .int .i64 ((I + 1 : Nat) : Int) | 2 => .bool false | _ => undef) () A.1 (by kernel_rfl) (by decide) (by decide) ⟨BB, FO, FG⟩ ?_ ?_
  · intro i_ hi_ s a X hf hv hn hS
    match i_, hi_ with
    | 0, _ => exact stepV rfl rfl (execMvB rfl ((hf 1 (by decide)).trans t1)) ⟨s, ⟨_, rfl, rfl⟩, hS, fun _ _ => rfl⟩
    | 1, _ => exact stepV rfl rfl (execMvB rfl ((hf 2 (by decide)).trans t2)) ⟨s, ⟨_, rfl, rfl⟩, hS, fun _ _ => rfl⟩
    | 2, _ => exact stepV rfl rfl (execDec (execEqN (p := I) (q := I + 1) rfl (hv 0 (by omega) _ rfl _ rfl) (hv 1 (by omega) _ rfl _ rfl)) (decide_eq_false (by omega))) ⟨s, ⟨_, rfl, rfl⟩, hS, fun _ _ => rfl⟩
    | k_ + 3, h_ => exact absurd h_ (by simp)
  rintro _ a X2 h1 h2 h3 h4 hS
  clear BB
  clear FO
  clear FG
  replace hS : Below U.heap.size U X2 ∧ (X2.ownsRow U.heap.size 3 1 (.slice (some ⟨g, 0, none⟩) (M + 1) c) (M + 1) (intsL (M + 1) (f))) ∧ (V.grownBy X2 (some g)) := hS
  obtain ⟨BB, FO, FG⟩ := hS
  replace t0 := (h3 0 (by decide)).trans t0
  replace t1 := (h3 1 (by decide)).trans t1
  replace t2 := (h3 2 (by decide)).trans t2
  have t16 : a.eval (.tmp 16) = .bool false := h4 2 _ rfl _ rfl
  replace A := (⟨h1, h2.trans A.2⟩ : a.tmps.size = 33 ∧ a.defers = [])
  clear h1 h2 h3 h4
  refine wp_cond_false t16 ?_
  refine wp_skip ?_
  clear t16
  refine wp_seq ?_
  refine wp_region_sq (σ := Unit) 33 [(0, 18), (1, 19), (2, 7)] (fun j_ s X => match j_ with | 0 => Below U.heap.size U X ∧ (X.ownsRow U.heap.size 3 1 (.slice (some ⟨g, 0, none⟩) (M + 1) c) (M + 1) (intsL (M + 1) (f))) ∧ (V.grownBy X (some g)) | 1 => Below U.heap.size U X ∧ (X.ownsRow U.heap.size 3 1 (.slice (some ⟨g, 0, none⟩) (M + 1) c) (M + 1) (intsL (M + 1) (f))) ∧ (V.grownBy X (some g)) | 2 => Below U.heap.size U X ∧ (X.ownsRow U.heap.size 3 1 (.slice (some ⟨g, 0, none⟩) (M + 1) c) (M + 1) (intsL (M + 1) (f))) ∧ (V.grownBy X (some g)) | _ => Below U.heap.size U X ∧ (X.ownsRow U.heap.size 3 1 (.slice (some ⟨g, 0, none⟩) (M + 1) c) (M + 1) (intsL (M + 1) (f))) ∧ (V.grownBy X (some g))) (fun s => fun i_ => match i_ with | 0 => .slice (some ⟨g, 0, none⟩) (M + 1) c | 1 => .int .i64 ((M + 1 : Nat) : Int) | 2 => .int .i64 ((M + 1 : Nat) : Int) | _ => undef) () A.1 (by kernel_rfl) (by decide) (by decide) ⟨BB, FO, FG⟩ ?_ ?_
  · intro i_ hi_ s a X hf hv hn hS
    match i_, hi_ with
    | 0, _ => exact stepV rfl rfl (execMvB rfl ((hf 0 (by decide)).trans t0)) ⟨s, ⟨_, rfl, rfl⟩, hS, fun _ _ => rfl⟩
    | 1, _ => exact stepV rfl rfl (execLenI (len := M + 1) rfl (hv 0 (by omega) _ rfl _ rfl) ⟨_, _, rfl⟩) ⟨s, ⟨_, rfl, rfl⟩, hS, fun _ _ => rfl⟩
    | 2, _ => exact stepV rfl rfl (execAsgB rfl (hv 1 (by omega) _ rfl _ rfl)) ⟨s, ⟨_, rfl, rfl⟩, hS, fun _ _ => rfl⟩
    | k_ + 3, h_ => exact absurd h_ (by simp)
  rintro _ a X4 h1 h2 h3 h4 hS
  clear BB
  clear FO
  clear FG
  replace hS : Below U.heap.size U X4 ∧ (X4.ownsRow U.heap.size 3 1 (.slice (some ⟨g, 0, none⟩) (M + 1) c) (M + 1) (intsL (M + 1) (f))) ∧ (V.grownBy X4 (some g)) := hS
  obtain ⟨BB, FO, FG⟩ := hS
  replace t0 := (h3 0 (by decide)).trans t0
  replace t1 := (h3 1 (by decide)).trans t1
  replace t2 := (h3 2 (by decide)).trans t2
  have t7 : a.eval (.tmp 7) = .int .i64 ((M + 1 : Nat) : Int) := h4 2 _ rfl _ rfl
  replace A := (⟨h1, h2.trans A.2⟩ : a.tmps.size = 33 ∧ a.defers = [])
  clear h1 h2 h3 h4
  refine wp_seq ?_
  refine wp_region_stB (σ := Unit) 33 [(0, 20), (1, 21), (2, 22), (3, 23), (4, 24), (5, 25), (6, 26), (7, 0)] (fun l_ s X => Below U.heap.size U X ∧ (l_ 6 = false → (X.ownsRow U.heap.size 3 1 (.slice (some ⟨g, 0, none⟩) (M + 1) c) (M + 1) (intsL (M + 1) (f)))) ∧ ((V.grownBy X (some g))) ∧ (l_ 6 = true → (X.ownsRow U.heap.size 3 1 (.slice (some ⟨g, 0, none⟩) M c) (M) (intsL (M) (fun j => if j < I then f j else f (j + 1)))))) (fun s => fun i_ => match i_ with | 0 => .slice (some ⟨g, 0, none⟩) (M + 1) c | 1 => .int .i64 ((I : Nat) : Int) | 2 => .slice (some ⟨g, 0, none⟩) I c | 3 => .slice (some ⟨g, 0, none⟩) (M + 1) c | 4 => .int .i64 ((I + 1 : Nat) : Int) | 5 => sliced (some ⟨g, 0, none⟩) (I + 1) (M + 1) c 1 | 6 => .slice (some ⟨g, 0, none⟩) M c | 7 => .slice (some ⟨g, 0, none⟩) M c | _ => undef) () (by kernel_rfl) (by kernel_rfl) A.1 (by kernel_rfl) (by decide) (by decide) ⟨(BB.drew), (fun _ => (ownD_below FO (Below.refl _ _).drew)), ((grown_bel FG (Below.refl _ _).drew)), (fun q0_ => by cases q0_)⟩ ?_ ?_
  · intro i_ hi_ l_ s a X hl_ hf hdep hl2 hcl hno hT
    have up : ∀ j x, x ≠ j → updB l_ j x = l_ x := fun j x hj => by unfold updB; simp [hj]
    match i_, hi_ with
    | 0, _ => exact stepV rfl rfl (execMvB rfl ((hno 7 _ rfl _ rfl (by cases hq_ : l_ 7 with | false => rfl | true => exact absurd (hl_.symm.trans (hcl 7 _ rfl hq_ 0 rfl)) (by decide))).trans t0)) ⟨s, ⟨_, rfl, rfl⟩, ⟨hT.1, (fun q0_ => (hT.2.1 (by rw [up 0 6 (by decide)] at q0_; exact q0_))), (hT.2.2.1), (fun q0_ => absurd (hl_.symm.trans (hcl 2 _ rfl (hcl 6 _ rfl ((up 0 6 (by decide)).symm.trans q0_) 2 rfl) 0 rfl)) (by decide))⟩, fun _ _ _ => rfl⟩
    | 1, _ => exact stepV rfl rfl (execMvB rfl ((hf 1 (by decide)).trans t1)) ⟨s, ⟨_, rfl, rfl⟩, ⟨hT.1, (fun q0_ => (hT.2.1 (by rw [up 1 6 (by decide)] at q0_; exact q0_))), (hT.2.2.1), (fun q0_ => absurd (hl_.symm.trans (hcl 2 _ rfl (hcl 6 _ rfl ((up 1 6 (by decide)).symm.trans q0_) 2 rfl) 1 rfl)) (by decide))⟩, fun _ _ _ => rfl⟩
    | 2, _ => exact stepV rfl rfl (By8.execSlH rfl (hdep _ rfl 0 rfl _ rfl _ rfl) (hdep _ rfl 1 rfl _ rfl _ rfl) (sl_hI g _ c I (by omega) X)) ⟨s, ⟨_, rfl, rfl⟩, ⟨hT.1, (fun q0_ => (hT.2.1 (by rw [up 2 6 (by decide)] at q0_; exact q0_))), (hT.2.2.1), (fun q0_ => absurd (hl_.symm.trans (hcl 6 _ rfl ((up 2 6 (by decide)).symm.trans q0_) 2 rfl)) (by decide))⟩, fun _ _ _ => rfl⟩
    | 3, _ => exact stepV rfl rfl (execMvB rfl ((hno 7 _ rfl _ rfl (by cases hq_ : l_ 7 with | false => rfl | true => exact absurd (hl_.symm.trans (hcl 7 _ rfl hq_ 3 rfl)) (by decide))).trans t0)) ⟨s, ⟨_, rfl, rfl⟩, ⟨hT.1, (fun q0_ => (hT.2.1 (by rw [up 3 6 (by decide)] at q0_; exact q0_))), (hT.2.2.1), (fun q0_ => absurd (hl_.symm.trans (hcl 5 _ rfl (hcl 6 _ rfl ((up 3 6 (by decide)).symm.trans q0_) 5 rfl) 3 rfl)) (by decide))⟩, fun _ _ _ => rfl⟩
    | 4, _ => exact stepV rfl rfl (execMvB rfl ((hf 2 (by decide)).trans t2)) ⟨s, ⟨_, rfl, rfl⟩, ⟨hT.1, (fun q0_ => (hT.2.1 (by rw [up 4 6 (by decide)] at q0_; exact q0_))), (hT.2.2.1), (fun q0_ => absurd (hl_.symm.trans (hcl 5 _ rfl (hcl 6 _ rfl ((up 4 6 (by decide)).symm.trans q0_) 5 rfl) 4 rfl)) (by decide))⟩, fun _ _ _ => rfl⟩
    | 5, _ => exact stepV rfl rfl (execSlLg rfl (hdep _ rfl 3 rfl _ rfl _ rfl) (hdep _ rfl 4 rfl _ rfl _ rfl) (sl_lIg g _ c (I + 1) (by omega) X)) ⟨s, ⟨_, rfl, rfl⟩, ⟨hT.1, (fun q0_ => (hT.2.1 (by rw [up 5 6 (by decide)] at q0_; exact q0_))), (hT.2.2.1), (fun q0_ => absurd (hl_.symm.trans (hcl 6 _ rfl ((up 5 6 (by decide)).symm.trans q0_) 5 rfl)) (by decide))⟩, fun _ _ _ => rfl⟩
    | 6, _ =>
      refine stepAppD (N := M) (F := fun j => if j < I then f j else f (j + 1)) rfl rfl rfl (hdep _ rfl 2 rfl _ rfl _ rfl) (hdep _ rfl 5 rfl _ rfl _ rfl) (own_takeI (hT.2.1 hl_) (by omega)) (SliceI.sub (own_ints (hT.2.1 hl_) hfit) (I + 1) (M + 1) (by omega) (Nat.le_refl _)) (sliced_some _ _ _ _) (by omega) (by omega) (by omega) (fun j hj => del_cat f I j) (hT.1).size fun W' own' gr => ⟨s, ⟨_, rfl, rfl⟩, ⟨(hT.1).grown gr (hT.1).size (fun k hk => (Option.some.inj hk) ▸ hgB), (fun q0_ => absurd q0_ (by unfold updB; simp)), ((grown_then hT.2.2.1 gr)), (fun _q0_ => own')⟩, fun i hi hli => ?_⟩
      match i, hi with
      | 0, _ => rfl
      | 1, _ => rfl
      | 2, _ => rfl
      | 3, _ => rfl
      | 4, _ => rfl
      | 5, _ => rfl
      | 6, _ => exact absurd (hl_.symm.trans hli) (by decide)
      | 7, _ => rfl
      | k_ + 8, h_ => exact absurd h_ (by simp)
    | 7, _ => exact stepV rfl rfl (execAsgB rfl (hdep _ rfl 6 rfl _ rfl _ rfl)) ⟨s, ⟨_, rfl, rfl⟩, ⟨hT.1, (fun q0_ => absurd (q0_.symm.trans ((up 7 6 (by decide)).trans (hl2 _ rfl 6 rfl))) (by decide)), (hT.2.2.1), (fun q0_ => (hT.2.2.2 (by rw [up 7 6 (by decide)] at q0_; exact q0_)))⟩, fun _ _ _ => rfl⟩
    | k_ + 8, h_ => exact absurd h_ (by simp)
  rintro l_ _ a X5 h1 h2 h3 h4 hall hT
  clear BB
  clear FO
  clear FG
  obtain ⟨BB, FO, FG, FO2⟩ := hT
  clear FO
  replace FG : (V.grownBy X5 (some g)) := FG
  replace FO2 : (X5.ownsRow U.heap.size 3 1 (.slice (some ⟨g, 0, none⟩) M c) (M) (intsL (M) (fun j => if j < I then f j else f (j + 1)))) := FO2 (hall 6 (by decide))
  clear hall
  replace t0 : a.eval (.tmp 0) = .slice (some ⟨g, 0, none⟩) M c := h4 (7, 0) (by decide)
  replace t7 := (h3 7 (by decide)).trans t7
  replace A := (⟨h1, h2.trans A.2⟩ : a.tmps.size = 33 ∧ a.defers = [])
  clear h1 h2 h3 h4
  clear t1 t2
  refine wp_seq ?_
  refine wp_region_sq (σ := Unit) 33 [(0, 27), (1, 28), (2, 29), (3, 30), (4, 31)] (fun j_ s X => match j_ with | 0 => Below U.heap.size U X ∧ (V.grownBy X (some g)) ∧ (X.ownsRow U.heap.size 3 1 (.slice (some ⟨g, 0, none⟩) M c) (M) (intsL (M) (fun j => if j < I then f j else f (j + 1)))) | 1 => Below U.heap.size U X ∧ (V.grownBy X (some g)) ∧ (X.ownsRow U.heap.size 3 1 (.slice (some ⟨g, 0, none⟩) M c) (M) (intsL (M) (fun j => if j < I then f j else f (j + 1)))) | 2 => Below U.heap.size U X ∧ (V.grownBy X (some g)) ∧ (X.ownsRow U.heap.size 3 1 (.slice (some ⟨g, 0, none⟩) M c) (M) (intsL (M) (fun j => if j < I then f j else f (j + 1)))) | 3 => Below U.heap.size U X ∧ (V.grownBy X (some g)) ∧ (X.ownsRow U.heap.size 3 1 (.slice (some ⟨g, 0, none⟩) M c) (M) (intsL (M) (fun j => if j < I then f j else f (j + 1)))) | 4 => Below U.heap.size U X ∧ (V.grownBy X (some g)) ∧ (X.ownsRow U.heap.size 3 1 (.slice (some ⟨g, 0, none⟩) M c) (M) (intsL (M) (fun j => if j < I then f j else f (j + 1)))) | 5 => Below U.heap.size U X ∧ (V.grownBy X (some g)) ∧ (X.ownsRow U.heap.size 3 1 (.slice (some ⟨g, 0, none⟩) M c) (M) (intsL (M) (fun j => if j < I then f j else f (j + 1)))) | _ => Below U.heap.size U X ∧ (V.grownBy X (some g)) ∧ (X.ownsRow U.heap.size 3 1 (.slice (some ⟨g, 0, none⟩) M c) (M) (intsL (M) (fun j => if j < I then f j else f (j + 1))))) (fun s => fun i_ => match i_ with | 0 => .slice (some ⟨g, 0, none⟩) M c | 1 => .slice (some ⟨g, 0, none⟩) M c | 2 => .int .i64 ((M : Nat) : Int) | 3 => .int .i64 ((M + 1 : Nat) : Int) | 4 => .slice (some ⟨g, M, none⟩) 1 (c - M) | 5 => undef | _ => undef) () A.1 (by kernel_rfl) (by decide) (by decide) ⟨BB, FG, FO2⟩ ?_ ?_
  · intro i_ hi_ s a X hf hv hn hS
    match i_, hi_ with
    | 0, _ => exact stepV rfl rfl (execMvB rfl ((hf 0 (by decide)).trans t0)) ⟨s, ⟨_, rfl, rfl⟩, hS, fun _ _ => rfl⟩
    | 1, _ => exact stepV rfl rfl (execMvB rfl ((hf 0 (by decide)).trans t0)) ⟨s, ⟨_, rfl, rfl⟩, hS, fun _ _ => rfl⟩
    | 2, _ => exact stepV rfl rfl (execLenI (len := M) rfl (hv 1 (by omega) _ rfl _ rfl) ⟨_, _, rfl⟩) ⟨s, ⟨_, rfl, rfl⟩, hS, fun _ _ => rfl⟩
    | 3, _ => exact stepV rfl rfl (execMvB rfl ((hf 7 (by decide)).trans t7)) ⟨s, ⟨_, rfl, rfl⟩, hS, fun _ _ => rfl⟩
    | 4, _ => exact stepV rfl rfl (execSlLH9 rfl (hv 0 (by omega) _ rfl _ rfl) (hv 2 (by omega) _ rfl _ rfl) (hv 3 (by omega) _ rfl _ rfl) (sl_endI g c M hcap X)) ⟨s, ⟨_, rfl, rfl⟩, hS, fun _ _ => rfl⟩
    | 5, _ =>
      refine stepClr rfl rfl rfl rfl (hv 4 (by omega) _ rfl _ rfl) hS.2.2 hcap ⟨s, ⟨_, rfl, rfl⟩, ⟨(hS.1).setCell hgB _, (grown_put hS.2.1), own_past hS.2.2 (Nat.le_refl _)⟩, fun i hi => ?_⟩
      match i, hi with
      | 0, _ => rfl
      | 1, _ => rfl
      | 2, _ => rfl
      | 3, _ => rfl
      | 4, _ => rfl
      | n_ + 5, h_ => omega
    | k_ + 6, h_ => exact absurd h_ (by simp)
  rintro _ a X6 h1 h2 h3 h4 hS
  clear BB
  clear FG
  clear FO2
  replace hS : Below U.heap.size U X6 ∧ (V.grownBy X6 (some g)) ∧ (X6.ownsRow U.heap.size 3 1 (.slice (some ⟨g, 0, none⟩) M c) (M) (intsL (M) (fun j => if j < I then f j else f (j + 1)))) := hS
  obtain ⟨BB, FG, FO3⟩ := hS
  replace t0 := (h3 0 (by decide)).trans t0
  replace A := (⟨h1, h2.trans A.2⟩ : a.tmps.size = 33 ∧ a.defers = [])
  clear h1 h2 h3 h4
  clear t7
  refine wp_seq ?_
  refine wp_region_sq (σ := Unit) 33 [(0, 32), (1, 6)] (fun j_ s X => match j_ with | 0 => Below U.heap.size U X ∧ (V.grownBy X (some g)) ∧ (X.ownsRow U.heap.size 3 1 (.slice (some ⟨g, 0, none⟩) M c) (M) (intsL (M) (fun j => if j < I then f j else f (j + 1)))) | 1 => Below U.heap.size U X ∧ (V.grownBy X (some g)) ∧ (X.ownsRow U.heap.size 3 1 (.slice (some ⟨g, 0, none⟩) M c) (M) (intsL (M) (fun j => if j < I then f j else f (j + 1)))) | _ => Below U.heap.size U X ∧ (V.grownBy X (some g)) ∧ (X.ownsRow U.heap.size 3 1 (.slice (some ⟨g, 0, none⟩) M c) (M) (intsL (M) (fun j => if j < I then f j else f (j + 1))))) (fun s => fun i_ => match i_ with | 0 => .slice (some ⟨g, 0, none⟩) M c | 1 => .slice (some ⟨g, 0, none⟩) M c | _ => undef) () A.1 (by kernel_rfl) (by decide) (by decide) ⟨BB, FG, FO3⟩ ?_ ?_
  · intro i_ hi_ s a X hf hv hn hS
    match i_, hi_ with
    | 0, _ => exact stepV rfl rfl (execMvB rfl ((hf 0 (by decide)).trans t0)) ⟨s, ⟨_, rfl, rfl⟩, hS, fun _ _ => rfl⟩
    | 1, _ => exact stepV rfl rfl (execAsgB rfl (hv 0 (by omega) _ rfl _ rfl)) ⟨s, ⟨_, rfl, rfl⟩, hS, fun _ _ => rfl⟩
    | k_ + 2, h_ => exact absurd h_ (by simp)
  rintro _ a X7 h1 h2 h3 h4 hS
  clear BB
  clear FG
  clear FO3
  replace hS : Below U.heap.size U X7 ∧ (V.grownBy X7 (some g)) ∧ (X7.ownsRow U.heap.size 3 1 (.slice (some ⟨g, 0, none⟩) M c) (M) (intsL (M) (fun j => if j < I then f j else f (j + 1)))) := hS
  obtain ⟨BB, FG, FO3⟩ := hS
  have t6 : a.eval (.tmp 6) = .slice (some ⟨g, 0, none⟩) M c := h4 1 _ rfl _ rfl
  replace A := (⟨h1, h2.trans A.2⟩ : a.tmps.size = 33 ∧ a.defers = [])
  clear h1 h2 h3 h4
  clear t0
  refine wp_ret ?_
  refine bodyPost_ret (results_tmp rfl _ _ _) A.2 ⟨?_, FO3, FG, BB⟩
  show Ending.returned (a.eval (.tmp 6)) = _
  rw [t6]
set_option maxRecDepth 100000 in
set_option maxHeartbeats 4000000 in
/-- The program's Unrank. -/
theorem punrank (d : Nat → Int) (n : Nat) (v : Value) (V : World) (hv : SliceI V v n d) (hn17 : n ≤ 17592186044416) :
    Calls Try.prog 10 #[v] V fun e w' => ∃ r, e = .returned (.tuple #[r, .int .i64 ((unE d n : Nat) : Int)]) ∧ w'.ownsRow V.heap.size 3 1 r (zl (unE d n) n) (intsL (zl (unE d n) n) (fun j => (unr (gN d) j : Int))) ∧ Below V.heap.size V w' := by
  obtain ⟨ia, ic, rfl, -, -, hsh⟩ := id hv.shape
  have FI := hv
  go_enter Try.func10, Try.ntmps10
  refine wp_seq ?_
  refine wp_region_sqK 40 [(0, 2), (1, 3)] (fun i_ => match i_ with | 0 => .slice none 0 0 | 1 => .int .i64 ((0 : Nat) : Int) | _ => undef) rfl (by kernel_rfl) (by decide) (by decide) ?_ ?_
  · intro i_ hi_ a hf hv hn
    match i_, hi_ with
    | 0, _ => exact stepV rfl rfl (execAsgB rfl rfl) ⟨⟨_, rfl, rfl⟩, rfl⟩
    | 1, _ => exact stepV rfl rfl (execAsgB rfl rfl) ⟨⟨_, rfl, rfl⟩, rfl⟩
    | k_ + 2, h_ => exact absurd h_ (by simp)
  intro a h1 h2 h3 h4
  have t0 : a.eval (.tmp 0) = .slice ia n ic := (h3 0 (by decide)).trans rfl
  have A : a.tmps.size = 40 ∧ a.defers = [] := ⟨h1, h2⟩
  have BW : Below V.heap.size V V := Below.refl _ _
  clear h1 h2 h3 h4
  have BB := BW
  refine wp_seq ?_
  refine wp_seq ?_
  by_cases hf : fitQ d n n = true
  · have hwf : ∀ X, Below V.heap.size V X → Calls Try.prog 21 #[.slice ia n ic, .int .i64 ((n : Nat) : Int)] X fun e w' => e = .returned (.bool true) ∧ Below X.heap.size X w' := fun X hX => by have h_ := pareBelow n d n _ X (FI.on hX) (by omega) (by omega) (by omega); rw [hf] at h_; exact h_
    refine wp_region_sq (σ := Unit) 40 [(0, 8), (1, 9), (2, 10), (3, 11), (4, 12)] (fun j_ s X => match j_ with | 0 => Below V.heap.size V X | 1 => Below V.heap.size V X | 2 => Below V.heap.size V X | 3 => Below V.heap.size V X | 4 => Below V.heap.size V X | _ => Below V.heap.size V X) (fun s => fun i_ => match i_ with | 0 => .slice ia n ic | 1 => .slice ia n ic | 2 => .int .i64 ((n : Nat) : Int) | 3 => .bool true | 4 => .bool false | _ => undef) () A.1 (by kernel_rfl) (by decide) (by decide) (BB) ?_ ?_
    · intro i_ hi_ s a X hf hv hn hS
      match i_, hi_ with
      | 0, _ => exact stepV rfl rfl (execMvB rfl ((hf 0 (by decide)).trans t0)) ⟨s, ⟨_, rfl, rfl⟩, hS, fun _ _ => rfl⟩
      | 1, _ => exact stepV rfl rfl (execMvB rfl ((hf 0 (by decide)).trans t0)) ⟨s, ⟨_, rfl, rfl⟩, hS, fun _ _ => rfl⟩
      | 2, _ => exact stepV rfl rfl (execLenI (len := n) rfl (hv 1 (by omega) _ rfl _ rfl) ((FI.on hS)).shp) ⟨s, ⟨_, rfl, rfl⟩, hS, fun _ _ => rfl⟩
      | 3, _ => exact stepC rfl rfl (execCall2 Try.func21 (by kernel_rfl) (by kernel_rfl) rfl (hv 0 (by omega) _ rfl _ rfl) (hv 2 (by omega) _ rfl _ rfl)) (hwf X hS) fun e w' hh => ⟨_, hh.1, s, ⟨_, rfl, rfl⟩, (hS).trans ((hh.2).mono (hS).size), fun _ _ => rfl⟩
      | 4, _ => exact stepV rfl rfl (execNot8 rfl (hv 3 (by omega) _ rfl _ rfl)) ⟨s, ⟨_, rfl, rfl⟩, hS, fun _ _ => rfl⟩
      | k_ + 5, h_ => exact absurd h_ (by simp)
    rintro _ a X1 h1 h2 h3 h4 hS
    clear BB
    replace hS : Below V.heap.size V X1 := hS
    have BB := hS
    clear hS
    replace t0 := (h3 0 (by decide)).trans t0
    have t12 : a.eval (.tmp 12) = .bool false := h4 4 _ rfl _ rfl
    replace A := (⟨h1, h2.trans A.2⟩ : a.tmps.size = 40 ∧ a.defers = [])
    clear h1 h2 h3 h4
    refine wp_cond_false t12 ?_
    refine wp_skip ?_
    clear t12
    have hE : unE d n = 0 := if_pos hf
    have hd := fitQ_iff.1 hf
    refine wp_seq ?_
    refine wp_region_sq (σ := Nat) 40 [(0, 13), (1, 14), (2, 15), (3, 4)] (fun j_ s X => match j_ with | 0 => Below V.heap.size V X | 1 => Below V.heap.size V X | 2 => Below V.heap.size V X | 3 => Below V.heap.size V X ∧ (X.ownsRow V.heap.size 3 1 (.slice (some ⟨s, 0, none⟩) n n) (n) (intsL (n) (fun j => if j < 0 then (unr (gN d) j : Int) else 0))) ∧ (V.heap.size ≤ s) | _ => Below V.heap.size V X ∧ (X.ownsRow V.heap.size 3 1 (.slice (some ⟨s, 0, none⟩) n n) (n) (intsL (n) (fun j => if j < 0 then (unr (gN d) j : Int) else 0))) ∧ (V.heap.size ≤ s)) (fun s => fun i_ => match i_ with | 0 => .slice ia n ic | 1 => .int .i64 ((n : Nat) : Int) | 2 => .slice (some ⟨s, 0, none⟩) n n | 3 => .slice (some ⟨s, 0, none⟩) n n | _ => undef) 0 A.1 (by kernel_rfl) (by decide) (by decide) (BB) ?_ ?_
    · intro i_ hi_ s a X hf hv hn hS
      match i_, hi_ with
      | 0, _ => exact stepV rfl rfl (execMvB rfl ((hf 0 (by decide)).trans t0)) ⟨s, ⟨_, rfl, rfl⟩, hS, fun _ _ => rfl⟩
      | 1, _ => exact stepV rfl rfl (execLenI (len := n) rfl (hv 0 (by omega) _ rfl _ rfl) ((FI.on hS)).shp) ⟨s, ⟨_, rfl, rfl⟩, hS, fun _ _ => rfl⟩
      | 2, _ =>
        refine stepV rfl rfl (execMkN rfl (hv 1 (by omega) _ rfl _ rfl) (hv 1 (by omega) _ rfl _ rfl) hn17) ⟨X.heap.size, ⟨_, rfl, rfl⟩, ⟨(hS).trans (((belNew X _)).mono (hS).size), ownD_base (own_mkZ X n _ hn17 (fun j_ _ => if_neg (Nat.not_lt_zero _))) (hS).size, (hS).size⟩, fun i hi => ?_⟩
        match i, hi with
        | 0, _ => rfl
        | 1, _ => rfl
        | n_ + 2, h_ => omega
      | 3, _ => exact stepV rfl rfl (execAsgB rfl (hv 2 (by omega) _ rfl _ rfl)) ⟨s, ⟨_, rfl, rfl⟩, hS, fun _ _ => rfl⟩
      | k_ + 4, h_ => exact absurd h_ (by simp)
    rintro g15 a X3 h1 h2 h3 h4 hS
    clear BB
    replace hS : Below V.heap.size V X3 ∧ (X3.ownsRow V.heap.size 3 1 (.slice (some ⟨g15, 0, none⟩) n n) (n) (intsL (n) (fun j => if j < 0 then (unr (gN d) j : Int) else 0))) ∧ (V.heap.size ≤ g15) := hS
    obtain ⟨BB, FO, Fg⟩ := hS
    replace t0 := (h3 0 (by decide)).trans t0
    have t4 : a.eval (.tmp 4) = .slice (some ⟨g15, 0, none⟩) n n := h4 3 _ rfl _ rfl
    replace A := (⟨h1, h2.trans A.2⟩ : a.tmps.size = 40 ∧ a.defers = [])
    clear h1 h2 h3 h4
    refine wp_seq ?_
    refine wp_region_sq (σ := Value) 40 [(0, 16), (1, 17), (2, 18), (3, 5)] (fun j_ s X => match j_ with | 0 => Below V.heap.size V X ∧ (X.ownsRow V.heap.size 3 1 (.slice (some ⟨g15, 0, none⟩) n n) (n) (intsL (n) (fun j => if j < 0 then (unr (gN d) j : Int) else 0))) ∧ (V.heap.size ≤ g15) | 1 => Below V.heap.size V X ∧ (X.ownsRow V.heap.size 3 1 (.slice (some ⟨g15, 0, none⟩) n n) (n) (intsL (n) (fun j => if j < 0 then (unr (gN d) j : Int) else 0))) ∧ (V.heap.size ≤ g15) | 2 => Below V.heap.size V X ∧ (X.ownsRow V.heap.size 3 1 (.slice (some ⟨g15, 0, none⟩) n n) (n) (intsL (n) (fun j => if j < 0 then (unr (gN d) j : Int) else 0))) ∧ (V.heap.size ≤ g15) | 3 => Below V.heap.size V X ∧ (X.ownsRow V.heap.size 3 1 (.slice (some ⟨g15, 0, none⟩) n n) (n) (intsL (n) (fun j => if j < 0 then (unr (gN d) j : Int) else 0))) ∧ (V.heap.size ≤ g15) ∧ (X.ownsRow V.heap.size 3 1 s (n) (intsL (n) (fun j => (j : Int)))) ∧ (∀ k, (Value.slice (some ⟨g15, 0, none⟩) n n).ownBlock = some k → s.ownBlock ≠ some k) | _ => Below V.heap.size V X ∧ (X.ownsRow V.heap.size 3 1 (.slice (some ⟨g15, 0, none⟩) n n) (n) (intsL (n) (fun j => if j < 0 then (unr (gN d) j : Int) else 0))) ∧ (V.heap.size ≤ g15) ∧ (X.ownsRow V.heap.size 3 1 s (n) (intsL (n) (fun j => (j : Int)))) ∧ (∀ k, (Value.slice (some ⟨g15, 0, none⟩) n n).ownBlock = some k → s.ownBlock ≠ some k)) (fun s => fun i_ => match i_ with | 0 => .slice ia n ic | 1 => .int .i64 ((n : Nat) : Int) | 2 => s | 3 => s | _ => undef) undef A.1 (by kernel_rfl) (by decide) (by decide) ⟨BB, FO, Fg⟩ ?_ ?_
    · intro i_ hi_ s a X hf hv hn hS
      match i_, hi_ with
      | 0, _ => exact stepV rfl rfl (execMvB rfl ((hf 0 (by decide)).trans t0)) ⟨s, ⟨_, rfl, rfl⟩, hS, fun _ _ => rfl⟩
      | 1, _ => exact stepV rfl rfl (execLenI (len := n) rfl (hv 0 (by omega) _ rfl _ rfl) ((FI.on hS.1)).shp) ⟨s, ⟨_, rfl, rfl⟩, hS, fun _ _ => rfl⟩
      | 2, _ =>
        refine stepC rfl rfl (execCall1 Try.func12 (by kernel_rfl) (by kernel_rfl) rfl (hv 1 (by omega) _ rfl _ rfl)) (pident (n : Int) X (by omega)) fun e w' hh => ?_
        obtain ⟨r_, he, hk, hb⟩ := hh
        rw [Int.toNat_natCast] at hk
        refine ⟨_, he, r_, ⟨_, rfl, rfl⟩, ⟨(hS.1).trans ((hb).mono (hS.1).size), (ownD_below hS.2.1 hb), hS.2.2, ownD_base hk (hS.1).size, fun k e q => by have a1 := (hS.2.1.lt k e).2; have a2 := (hk.lt k q).1; omega⟩, fun i hi => ?_⟩
        match i, hi with
        | 0, _ => rfl
        | 1, _ => rfl
        | n_ + 2, h_ => omega
      | 3, _ => exact stepV rfl rfl (execAsgB rfl (hv 2 (by omega) _ rfl _ rfl)) ⟨s, ⟨_, rfl, rfl⟩, hS, fun _ _ => rfl⟩
      | k_ + 4, h_ => exact absurd h_ (by simp)
    rintro v18 a X4 h1 h2 h3 h4 hS
    clear BB
    clear FO
    clear Fg
    replace hS : Below V.heap.size V X4 ∧ (X4.ownsRow V.heap.size 3 1 (.slice (some ⟨g15, 0, none⟩) n n) (n) (intsL (n) (fun j => if j < 0 then (unr (gN d) j : Int) else 0))) ∧ (V.heap.size ≤ g15) ∧ (X4.ownsRow V.heap.size 3 1 v18 (n) (intsL (n) (fun j => (j : Int)))) ∧ (∀ k, (Value.slice (some ⟨g15, 0, none⟩) n n).ownBlock = some k → v18.ownBlock ≠ some k) := hS
    obtain ⟨BB, FO, Fg, FL, Fap⟩ := hS
    replace t0 := (h3 0 (by decide)).trans t0
    replace t4 := (h3 4 (by decide)).trans t4
    have t5 : a.eval (.tmp 5) = v18 := h4 3 _ rfl _ rfl
    replace A := (⟨h1, h2.trans A.2⟩ : a.tmps.size = 40 ∧ a.defers = [])
    clear h1 h2 h3 h4
    have FT : Two V X4 (.slice (some ⟨g15, 0, none⟩) n n) n (fun j => if j < 0 then (unr (gN d) j : Int) else 0) v18 (n - 0) (fun j => (ul (gN d) 0 j : Int)) := ⟨FO, FL, Fap⟩
    clear FO FL Fap
    refine wp_seq ?_
    refine wp_seq ?_
    refine wp_region_sq (σ := Unit) 40 [(0, 19), (1, 20), (2, 21)] (fun j_ s X => match j_ with | 0 => Below V.heap.size V X ∧ (Two V X (.slice (some ⟨g15, 0, none⟩) n n) (n) (fun j => if j < 0 then (unr (gN d) j : Int) else 0) v18 (n - 0) (fun j => (ul (gN d) 0 j : Int))) | 1 => Below V.heap.size V X ∧ (Two V X (.slice (some ⟨g15, 0, none⟩) n n) (n) (fun j => if j < 0 then (unr (gN d) j : Int) else 0) v18 (n - 0) (fun j => (ul (gN d) 0 j : Int))) | 2 => Below V.heap.size V X ∧ (Two V X (.slice (some ⟨g15, 0, none⟩) n n) (n) (fun j => if j < 0 then (unr (gN d) j : Int) else 0) v18 (n - 0) (fun j => (ul (gN d) 0 j : Int))) | _ => Below V.heap.size V X ∧ (Two V X (.slice (some ⟨g15, 0, none⟩) n n) (n) (fun j => if j < 0 then (unr (gN d) j : Int) else 0) v18 (n - 0) (fun j => (ul (gN d) 0 j : Int)))) (fun s => fun i_ => match i_ with | 0 => .slice ia n ic | 1 => .int .i64 ((n : Nat) : Int) | 2 => .int .i64 ((0 : Nat) : Int) | _ => undef) () A.1 (by kernel_rfl) (by decide) (by decide) ⟨BB, FT⟩ ?_ ?_
    · intro i_ hi_ s a X hf hv hn hS
      match i_, hi_ with
      | 0, _ => exact stepV rfl rfl (execMvB rfl ((hf 0 (by decide)).trans t0)) ⟨s, ⟨_, rfl, rfl⟩, hS, fun _ _ => rfl⟩
      | 1, _ => exact stepV rfl rfl (execLenI (len := n) rfl (hv 0 (by omega) _ rfl _ rfl) ((FI.on hS.1)).shp) ⟨s, ⟨_, rfl, rfl⟩, hS, fun _ _ => rfl⟩
      | 2, _ => exact stepV rfl rfl (execMvB rfl rfl) ⟨s, ⟨_, rfl, rfl⟩, hS, fun _ _ => rfl⟩
      | k_ + 3, h_ => exact absurd h_ (by simp)
    rintro _ a X5 h1 h2 h3 h4 hS
    clear BB
    clear FT
    replace hS : Below V.heap.size V X5 ∧ (Two V X5 (.slice (some ⟨g15, 0, none⟩) n n) (n) (fun j => if j < 0 then (unr (gN d) j : Int) else 0) v18 (n - 0) (fun j => (ul (gN d) 0 j : Int))) := hS
    obtain ⟨BB, FT⟩ := hS
    replace t4 := (h3 4 (by decide)).trans t4
    replace t5 := (h3 5 (by decide)).trans t5
    have t19 : a.eval (.tmp 19) = .slice ia n ic := h4 0 _ rfl _ rfl
    have t20 : a.eval (.tmp 20) = .int .i64 ((n : Nat) : Int) := h4 1 _ rfl _ rfl
    have t21 : a.eval (.tmp 21) = .int .i64 ((0 : Nat) : Int) := h4 2 _ rfl _ rfl
    replace A := (⟨h1, h2.trans A.2⟩ : a.tmps.size = 40 ∧ a.defers = [])
    clear h1 h2 h3 h4
    clear t0
    refine wp_block ?_
    refine wp_loop (fun a W => ∃ (i : Nat) (lv : Value), i ≤ n ∧ (a.tmps.size = 40 ∧ a.defers = []) ∧ a.eval (.tmp 4) = .slice (some ⟨g15, 0, none⟩) n n ∧ a.eval (.tmp 5) = lv ∧ a.eval (.tmp 19) = .slice ia n ic ∧ a.eval (.tmp 20) = .int .i64 ((n : Nat) : Int) ∧ a.eval (.tmp 21) = .int .i64 ((i : Nat) : Int) ∧ Below V.heap.size V W ∧ (Two V W (.slice (some ⟨g15, 0, none⟩) n n) (n) (fun j => if j < i then (unr (gN d) j : Int) else 0) lv (n - i) (fun j => (ul (gN d) i j : Int)))) (fun a _ => n - (intOf (a.eval (.tmp 21))).toNat) ⟨0, _, Nat.zero_le _, A, t4, t5, t19, t20, t21, BB, FT⟩ ?_
    clear A t4 t5 t19 t20 t21 BB FT a
    rintro a XL6 ⟨i, lv, hi, A, t4, t5, t19, t20, t21, BB, FT⟩
    have es := t21
    refine wp_seq ?_
    refine wp_region_sq (σ := Unit) 40 [(0, 22)] (fun j_ s X => match j_ with | 0 => Below V.heap.size V X ∧ (Two V X (.slice (some ⟨g15, 0, none⟩) n n) (n) (fun j => if j < i then (unr (gN d) j : Int) else 0) lv (n - i) (fun j => (ul (gN d) i j : Int))) | _ => Below V.heap.size V X ∧ (Two V X (.slice (some ⟨g15, 0, none⟩) n n) (n) (fun j => if j < i then (unr (gN d) j : Int) else 0) lv (n - i) (fun j => (ul (gN d) i j : Int)))) (fun s => fun i_ => match i_ with | 0 => .bool (decide (i < n)) | _ => undef) () A.1 (by kernel_rfl) (by decide) (by decide) ⟨BB, FT⟩ ?_ ?_
    · intro i_ hi_ s a X hf hv hn hS
      match i_, hi_ with
      | 0, _ => exact stepV rfl rfl (execLtW (p := i) (q := n) rfl ((hf 21 (by decide)).trans t21) ((hf 20 (by decide)).trans t20)) ⟨s, ⟨_, rfl, rfl⟩, hS, fun _ _ => rfl⟩
      | k_ + 1, h_ => exact absurd h_ (by simp)
    rintro _ a X6 h1 h2 h3 h4 hS
    clear BB
    clear FT
    replace hS : Below V.heap.size V X6 ∧ (Two V X6 (.slice (some ⟨g15, 0, none⟩) n n) (n) (fun j => if j < i then (unr (gN d) j : Int) else 0) lv (n - i) (fun j => (ul (gN d) i j : Int))) := hS
    obtain ⟨BB, FT⟩ := hS
    replace t4 := (h3 4 (by decide)).trans t4
    replace t5 := (h3 5 (by decide)).trans t5
    replace t19 := (h3 19 (by decide)).trans t19
    replace t20 := (h3 20 (by decide)).trans t20
    replace t21 := (h3 21 (by decide)).trans t21
    have t22 : a.eval (.tmp 22) = .bool (decide (i < n)) := h4 0 _ rfl _ rfl
    replace A := (⟨h1, h2.trans A.2⟩ : a.tmps.size = 40 ∧ a.defers = [])
    clear h1 h2 h3 h4
    refine wp_seq ?_
    by_cases hlt : i < n
    · rw [decide_eq_true hlt] at t22
      refine wp_cond_true t22 ?_
      refine wp_skip ?_
      clear t22
      refine wp_seq ?_
      refine wp_block ?_
      have hdi := hd i hlt
      obtain ⟨w, ew⟩ : ∃ w : Nat, d i = w := ⟨(d i).toNat, by omega⟩
      have hg : gN d i = w := by show (d i).toNat = w; omega
      obtain ⟨M, hM⟩ : ∃ M, n - i = M + 1 := ⟨n - i - 1, by omega⟩
      have hM2 : n - (i + 1) = M := by omega
      have hw : w < M + 1 := by omega
      obtain ⟨ib, io, rfl, hib, hcell⟩ := hsh (by omega)
      have cI : ∀ k, k < n → ∀ X, Below V.heap.size V X → X.cell? ⟨ib, io + k, none⟩ = some (.int .i64 (d k)) := fun k hk X hX => by rw [cell_below hX hib]; exact hcell k hk
      have cW : ∀ X, Below V.heap.size V X → X.cell? ⟨ib, io + i, none⟩ = some (.int .i64 ((w : Nat) : Int)) := fun X hX => by rw [cI i hlt X hX, ew]
      rw [hM] at FT
      obtain ⟨gl, cl, rfl, hgl, _⟩ := ownL_some9 FT.rl (by omega)
      refine wp_seq ?_
      refine wp_region_sq (σ := Unit) 40 [(0, 23), (1, 24), (2, 25), (3, 6), (4, 7)] (fun j_ s X => match j_ with | 0 => Below V.heap.size V X ∧ (Two V X (.slice (some ⟨g15, 0, none⟩) n n) (n) (fun j => if j < i then (unr (gN d) j : Int) else 0) (.slice (some ⟨gl, 0, none⟩) (M + 1) cl) (M + 1) (fun j => (ul (gN d) i j : Int))) | 1 => Below V.heap.size V X ∧ (Two V X (.slice (some ⟨g15, 0, none⟩) n n) (n) (fun j => if j < i then (unr (gN d) j : Int) else 0) (.slice (some ⟨gl, 0, none⟩) (M + 1) cl) (M + 1) (fun j => (ul (gN d) i j : Int))) | 2 => Below V.heap.size V X ∧ (Two V X (.slice (some ⟨g15, 0, none⟩) n n) (n) (fun j => if j < i then (unr (gN d) j : Int) else 0) (.slice (some ⟨gl, 0, none⟩) (M + 1) cl) (M + 1) (fun j => (ul (gN d) i j : Int))) | 3 => Below V.heap.size V X ∧ (Two V X (.slice (some ⟨g15, 0, none⟩) n n) (n) (fun j => if j < i then (unr (gN d) j : Int) else 0) (.slice (some ⟨gl, 0, none⟩) (M + 1) cl) (M + 1) (fun j => (ul (gN d) i j : Int))) | 4 => Below V.heap.size V X ∧ (Two V X (.slice (some ⟨g15, 0, none⟩) n n) (n) (fun j => if j < i then (unr (gN d) j : Int) else 0) (.slice (some ⟨gl, 0, none⟩) (M + 1) cl) (M + 1) (fun j => (ul (gN d) i j : Int))) | _ => Below V.heap.size V X ∧ (Two V X (.slice (some ⟨g15, 0, none⟩) n n) (n) (fun j => if j < i then (unr (gN d) j : Int) else 0) (.slice (some ⟨gl, 0, none⟩) (M + 1) cl) (M + 1) (fun j => (ul (gN d) i j : Int)))) (fun s => fun i_ => match i_ with | 0 => .int .i64 ((i : Nat) : Int) | 1 => .pointer (some ⟨ib, io + i, none⟩) | 2 => .int .i64 ((w : Nat) : Int) | 3 => .int .i64 ((i : Nat) : Int) | 4 => .int .i64 ((w : Nat) : Int) | _ => undef) () A.1 (by kernel_rfl) (by decide) (by decide) ⟨BB, FT⟩ ?_ ?_
      · intro i_ hi_ s a X hf hv hn hS
        match i_, hi_ with
        | 0, _ => exact stepV rfl rfl (execMvB rfl ((hf 21 (by decide)).trans t21)) ⟨s, ⟨_, rfl, rfl⟩, hS, fun _ _ => rfl⟩
        | 1, _ => exact stepV rfl rfl (execIdxN (k := i) rfl ((hf 19 (by decide)).trans t19) ((hf 21 (by decide)).trans t21) hlt) ⟨s, ⟨_, rfl, rfl⟩, hS, fun _ _ => rfl⟩
        | 2, _ => exact stepV rfl rfl (execLd3 rfl (hv 1 (by omega) _ rfl _ rfl) (cW X hS.1)) ⟨s, ⟨_, rfl, rfl⟩, hS, fun _ _ => rfl⟩
        | 3, _ => exact stepV rfl rfl (execAsgB rfl (hv 0 (by omega) _ rfl _ rfl)) ⟨s, ⟨_, rfl, rfl⟩, hS, fun _ _ => rfl⟩
        | 4, _ => exact stepV rfl rfl (execAsgB rfl (hv 2 (by omega) _ rfl _ rfl)) ⟨s, ⟨_, rfl, rfl⟩, hS, fun _ _ => rfl⟩
        | k_ + 5, h_ => exact absurd h_ (by simp)
      rintro _ a X7 h1 h2 h3 h4 hS
      clear BB
      clear FT
      replace hS : Below V.heap.size V X7 ∧ (Two V X7 (.slice (some ⟨g15, 0, none⟩) n n) (n) (fun j => if j < i then (unr (gN d) j : Int) else 0) (.slice (some ⟨gl, 0, none⟩) (M + 1) cl) (M + 1) (fun j => (ul (gN d) i j : Int))) := hS
      obtain ⟨BB, FT⟩ := hS
      replace t4 := (h3 4 (by decide)).trans t4
      replace t5 := (h3 5 (by decide)).trans t5
      replace t19 := (h3 19 (by decide)).trans t19
      replace t20 := (h3 20 (by decide)).trans t20
      replace t21 := (h3 21 (by decide)).trans t21
      have t6 : a.eval (.tmp 6) = .int .i64 ((i : Nat) : Int) := h4 3 _ rfl _ rfl
      have t7 : a.eval (.tmp 7) = .int .i64 ((w : Nat) : Int) := h4 4 _ rfl _ rfl
      replace A := (⟨h1, h2.trans A.2⟩ : a.tmps.size = 40 ∧ a.defers = [])
      clear h1 h2 h3 h4
      refine wp_seq ?_
      refine wp_region_sq (σ := Unit) 40 [(0, 26), (1, 27), (2, 28), (3, 29), (4, 30), (5, 31), (6, 32)] (fun j_ s X => match j_ with | 0 => Below V.heap.size V X ∧ (Two V X (.slice (some ⟨g15, 0, none⟩) n n) (n) (fun j => if j < i then (unr (gN d) j : Int) else 0) (.slice (some ⟨gl, 0, none⟩) (M + 1) cl) (M + 1) (fun j => (ul (gN d) i j : Int))) | 1 => Below V.heap.size V X ∧ (Two V X (.slice (some ⟨g15, 0, none⟩) n n) (n) (fun j => if j < i then (unr (gN d) j : Int) else 0) (.slice (some ⟨gl, 0, none⟩) (M + 1) cl) (M + 1) (fun j => (ul (gN d) i j : Int))) | 2 => Below V.heap.size V X ∧ (Two V X (.slice (some ⟨g15, 0, none⟩) n n) (n) (fun j => if j < i then (unr (gN d) j : Int) else 0) (.slice (some ⟨gl, 0, none⟩) (M + 1) cl) (M + 1) (fun j => (ul (gN d) i j : Int))) | 3 => Below V.heap.size V X ∧ (Two V X (.slice (some ⟨g15, 0, none⟩) n n) (n) (fun j => if j < i then (unr (gN d) j : Int) else 0) (.slice (some ⟨gl, 0, none⟩) (M + 1) cl) (M + 1) (fun j => (ul (gN d) i j : Int))) | 4 => Below V.heap.size V X ∧ (Two V X (.slice (some ⟨g15, 0, none⟩) n n) (n) (fun j => if j < i then (unr (gN d) j : Int) else 0) (.slice (some ⟨gl, 0, none⟩) (M + 1) cl) (M + 1) (fun j => (ul (gN d) i j : Int))) | 5 => Below V.heap.size V X ∧ (Two V X (.slice (some ⟨g15, 0, none⟩) n n) (n) (fun j => if j < i then (unr (gN d) j : Int) else 0) (.slice (some ⟨gl, 0, none⟩) (M + 1) cl) (M + 1) (fun j => (ul (gN d) i j : Int))) | 6 => Below V.heap.size V X ∧ (Two V X (.slice (some ⟨g15, 0, none⟩) n n) (n) (fun j => if j < i then (unr (gN d) j : Int) else 0) (.slice (some ⟨gl, 0, none⟩) (M + 1) cl) (M + 1) (fun j => (ul (gN d) i j : Int))) | 7 => Below V.heap.size V X ∧ (Two V X (.slice (some ⟨g15, 0, none⟩) n n) (n) (fun j => if j < i then (unr (gN d) j : Int) else 0) (.slice (some ⟨gl, 0, none⟩) (M + 1) cl) (M + 1) (fun j => (ul (gN d) i j : Int))) | _ => Below V.heap.size V X ∧ (Two V X (.slice (some ⟨g15, 0, none⟩) n n) (n) (fun j => if j < (i + 1) then (unr (gN d) j : Int) else 0) (.slice (some ⟨gl, 0, none⟩) (M + 1) cl) (M + 1) (fun j => (ul (gN d) i j : Int)))) (fun s => fun i_ => match i_ with | 0 => .slice (some ⟨g15, 0, none⟩) n n | 1 => .int .i64 ((i : Nat) : Int) | 2 => .slice (some ⟨gl, 0, none⟩) (M + 1) cl | 3 => .int .i64 ((w : Nat) : Int) | 4 => .pointer (some ⟨gl, 0 + w, none⟩) | 5 => .int .i64 ((ul (gN d) i w : Nat) : Int) | 6 => .pointer (some ⟨g15, 0 + i, none⟩) | 7 => undef | _ => undef) () A.1 (by kernel_rfl) (by decide) (by decide) ⟨BB, FT⟩ ?_ ?_
      · intro i_ hi_ s a X hf hv hn hS
        match i_, hi_ with
        | 0, _ => exact stepV rfl rfl (execMvB rfl ((hf 4 (by decide)).trans t4)) ⟨s, ⟨_, rfl, rfl⟩, hS, fun _ _ => rfl⟩
        | 1, _ => exact stepV rfl rfl (execMvB rfl ((hf 6 (by decide)).trans t6)) ⟨s, ⟨_, rfl, rfl⟩, hS, fun _ _ => rfl⟩
        | 2, _ => exact stepV rfl rfl (execMvB rfl ((hf 5 (by decide)).trans t5)) ⟨s, ⟨_, rfl, rfl⟩, hS, fun _ _ => rfl⟩
        | 3, _ => exact stepV rfl rfl (execMvB rfl ((hf 7 (by decide)).trans t7)) ⟨s, ⟨_, rfl, rfl⟩, hS, fun _ _ => rfl⟩
        | 4, _ => exact stepV rfl rfl (execIdxN (k := w) rfl (hv 2 (by omega) _ rfl _ rfl) (hv 3 (by omega) _ rfl _ rfl) hw) ⟨s, ⟨_, rfl, rfl⟩, hS, fun _ _ => rfl⟩
        | 5, _ => exact stepV rfl rfl (execLd3 rfl (hv 4 (by omega) _ rfl _ rfl) (own_cellI hS.2.rl hw).1) ⟨s, ⟨_, rfl, rfl⟩, hS, fun _ _ => rfl⟩
        | 6, _ => exact stepV rfl rfl (execIdxN (k := i) rfl (hv 0 (by omega) _ rfl _ rfl) (hv 1 (by omega) _ rfl _ rfl) hlt) ⟨s, ⟨_, rfl, rfl⟩, hS, fun _ _ => rfl⟩
        | 7, _ =>
          obtain ⟨hc_, hf_⟩ := own_cellI hS.2.ru hlt
          refine stepS rfl rfl (execStI9 rfl (hv 6 (by omega) _ rfl _ rfl) (hv 5 (by omega) _ rfl _ rfl) hc_ hf_) ⟨s, ⟨_, rfl, rfl⟩, ⟨(hS.1).setCell Fg _, hS.2.put (own_fill (F := fun j => (unr (gN d) j : Int)) hS.2.ru (by show ((ul (gN d) i w : Nat) : Int) = ((ul (gN d) i (gN d i) : Nat) : Int); rw [hg]))⟩, fun i hi => ?_⟩
          match i, hi with
          | 0, _ => rfl
          | 1, _ => rfl
          | 2, _ => rfl
          | 3, _ => rfl
          | 4, _ => rfl
          | 5, _ => rfl
          | 6, _ => rfl
          | n_ + 7, h_ => omega
        | k_ + 8, h_ => exact absurd h_ (by simp)
      rintro _ a X8 h1 h2 h3 h4 hS
      clear BB
      clear FT
      replace hS : Below V.heap.size V X8 ∧ (Two V X8 (.slice (some ⟨g15, 0, none⟩) n n) (n) (fun j => if j < (i + 1) then (unr (gN d) j : Int) else 0) (.slice (some ⟨gl, 0, none⟩) (M + 1) cl) (M + 1) (fun j => (ul (gN d) i j : Int))) := hS
      obtain ⟨BB, FT2⟩ := hS
      replace t4 := (h3 4 (by decide)).trans t4
      replace t5 := (h3 5 (by decide)).trans t5
      replace t19 := (h3 19 (by decide)).trans t19
      replace t20 := (h3 20 (by decide)).trans t20
      replace t21 := (h3 21 (by decide)).trans t21
      replace t7 := (h3 7 (by decide)).trans t7
      replace A := (⟨h1, h2.trans A.2⟩ : a.tmps.size = 40 ∧ a.defers = [])
      clear h1 h2 h3 h4
      clear t6
      refine wp_region_sq (σ := Unit) 40 [(0, 33), (1, 34), (2, 35), (3, 36), (4, 37), (5, 5)] (fun j_ s X => match j_ with | 0 => Below V.heap.size V X ∧ (Two V X (.slice (some ⟨g15, 0, none⟩) n n) (n) (fun j => if j < (i + 1) then (unr (gN d) j : Int) else 0) (.slice (some ⟨gl, 0, none⟩) (M + 1) cl) (M + 1) (fun j => (ul (gN d) i j : Int))) | 1 => Below V.heap.size V X ∧ (Two V X (.slice (some ⟨g15, 0, none⟩) n n) (n) (fun j => if j < (i + 1) then (unr (gN d) j : Int) else 0) (.slice (some ⟨gl, 0, none⟩) (M + 1) cl) (M + 1) (fun j => (ul (gN d) i j : Int))) | 2 => Below V.heap.size V X ∧ (Two V X (.slice (some ⟨g15, 0, none⟩) n n) (n) (fun j => if j < (i + 1) then (unr (gN d) j : Int) else 0) (.slice (some ⟨gl, 0, none⟩) (M + 1) cl) (M + 1) (fun j => (ul (gN d) i j : Int))) | 3 => Below V.heap.size V X ∧ (Two V X (.slice (some ⟨g15, 0, none⟩) n n) (n) (fun j => if j < (i + 1) then (unr (gN d) j : Int) else 0) (.slice (some ⟨gl, 0, none⟩) (M + 1) cl) (M + 1) (fun j => (ul (gN d) i j : Int))) | 4 => Below V.heap.size V X ∧ (Two V X (.slice (some ⟨g15, 0, none⟩) n n) (n) (fun j => if j < (i + 1) then (unr (gN d) j : Int) else 0) (.slice (some ⟨gl, 0, none⟩) (M + 1) cl) (M + 1) (fun j => (ul (gN d) i j : Int))) | 5 => Below V.heap.size V X ∧ (Two V X (.slice (some ⟨g15, 0, none⟩) n n) (n) (fun j => if j < (i + 1) then (unr (gN d) j : Int) else 0) (.slice (some ⟨gl, 0, none⟩) M cl) (M) (fun j => (ul (gN d) (i + 1) j : Int))) | _ => Below V.heap.size V X ∧ (Two V X (.slice (some ⟨g15, 0, none⟩) n n) (n) (fun j => if j < (i + 1) then (unr (gN d) j : Int) else 0) (.slice (some ⟨gl, 0, none⟩) M cl) (M) (fun j => (ul (gN d) (i + 1) j : Int)))) (fun s => fun i_ => match i_ with | 0 => .slice (some ⟨gl, 0, none⟩) (M + 1) cl | 1 => .int .i64 ((w : Nat) : Int) | 2 => .int .i64 ((w : Nat) : Int) | 3 => .int .i64 ((w + 1 : Nat) : Int) | 4 => .slice (some ⟨gl, 0, none⟩) M cl | 5 => .slice (some ⟨gl, 0, none⟩) M cl | _ => undef) () A.1 (by kernel_rfl) (by decide) (by decide) ⟨BB, FT2⟩ ?_ ?_
      · intro i_ hi_ s a X hf hv hn hS
        match i_, hi_ with
        | 0, _ => exact stepV rfl rfl (execMvB rfl ((hn 5 (by omega) _ rfl _ rfl).trans t5)) ⟨s, ⟨_, rfl, rfl⟩, hS, fun _ _ => rfl⟩
        | 1, _ => exact stepV rfl rfl (execMvB rfl ((hf 7 (by decide)).trans t7)) ⟨s, ⟨_, rfl, rfl⟩, hS, fun _ _ => rfl⟩
        | 2, _ => exact stepV rfl rfl (execMvB rfl ((hf 7 (by decide)).trans t7)) ⟨s, ⟨_, rfl, rfl⟩, hS, fun _ _ => rfl⟩
        | 3, _ => exact stepV rfl rfl (execAd8 (p := w) (q := 1) rfl (hv 2 (by omega) _ rfl _ rfl) rfl (by omega)) ⟨s, ⟨_, rfl, rfl⟩, hS, fun _ _ => rfl⟩
        | 4, _ =>
          refine stepC rfl rfl (execCall3 Try.func22 (by kernel_rfl) (by kernel_rfl) rfl (hv 0 (by omega) _ rfl _ rfl) (hv 1 (by omega) _ rfl _ rfl) (hv 3 (by omega) _ rfl _ rfl)) (pdelete (fun j => (ul (gN d) i j : Int)) M w gl cl _ V X rfl hS.1 hS.2.rl (fun j hj => ul_fits hi hd (by omega) (by omega)) (by omega) (by omega)) fun e w' hh => ?_
          obtain ⟨he, ho, hgr, hb⟩ := hh
          refine ⟨_, he, s, ⟨_, rfl, rfl⟩, ⟨hb, hS.2.del (by rw [← intsL_congr (fun j _ => ul_del hg j)]; exact ho) hgr⟩, fun i hi => ?_⟩
          match i, hi with
          | 0, _ => rfl
          | 1, _ => rfl
          | 2, _ => rfl
          | 3, _ => rfl
          | n_ + 4, h_ => omega
        | 5, _ => exact stepV rfl rfl (execAsgB rfl (hv 4 (by omega) _ rfl _ rfl)) ⟨s, ⟨_, rfl, rfl⟩, hS, fun _ _ => rfl⟩
        | k_ + 6, h_ => exact absurd h_ (by simp)
      rintro _ a X9 h1 h2 h3 h4 hS
      clear BB
      clear FT2
      replace hS : Below V.heap.size V X9 ∧ (Two V X9 (.slice (some ⟨g15, 0, none⟩) n n) (n) (fun j => if j < (i + 1) then (unr (gN d) j : Int) else 0) (.slice (some ⟨gl, 0, none⟩) M cl) (M) (fun j => (ul (gN d) (i + 1) j : Int))) := hS
      obtain ⟨BB, FT3⟩ := hS
      replace t4 := (h3 4 (by decide)).trans t4
      replace t5 : a.eval (.tmp 5) = .slice (some ⟨gl, 0, none⟩) M cl := h4 5 _ rfl _ rfl
      replace t19 := (h3 19 (by decide)).trans t19
      replace t20 := (h3 20 (by decide)).trans t20
      replace t21 := (h3 21 (by decide)).trans t21
      replace A := (⟨h1, h2.trans A.2⟩ : a.tmps.size = 40 ∧ a.defers = [])
      clear h1 h2 h3 h4
      clear t7
      rw [← hM2] at FT3 t5
      refine wp_region_sq (σ := Unit) 40 [(0, 38), (1, 21)] (fun j_ s X => match j_ with | 0 => Below V.heap.size V X ∧ (Two V X (.slice (some ⟨g15, 0, none⟩) n n) (n) (fun j => if j < (i + 1) then (unr (gN d) j : Int) else 0) (.slice (some ⟨gl, 0, none⟩) (n - (i + 1)) cl) (n - (i + 1)) (fun j => (ul (gN d) (i + 1) j : Int))) | 1 => Below V.heap.size V X ∧ (Two V X (.slice (some ⟨g15, 0, none⟩) n n) (n) (fun j => if j < (i + 1) then (unr (gN d) j : Int) else 0) (.slice (some ⟨gl, 0, none⟩) (n - (i + 1)) cl) (n - (i + 1)) (fun j => (ul (gN d) (i + 1) j : Int))) | _ => Below V.heap.size V X ∧ (Two V X (.slice (some ⟨g15, 0, none⟩) n n) (n) (fun j => if j < (i + 1) then (unr (gN d) j : Int) else 0) (.slice (some ⟨gl, 0, none⟩) (n - (i + 1)) cl) (n - (i + 1)) (fun j => (ul (gN d) (i + 1) j : Int)))) (fun s => fun i_ => match i_ with | 0 => .int .i64 ((i + 1 : Nat) : Int) | 1 => .int .i64 ((i + 1 : Nat) : Int) | _ => undef) () A.1 (by kernel_rfl) (by decide) (by decide) ⟨BB, FT3⟩ ?_ ?_
      · intro i_ hi_ s a X hf hv hn hS
        match i_, hi_ with
        | 0, _ => exact stepV rfl rfl (execAd8 (p := i) (q := 1) rfl ((hn 1 (by omega) _ rfl _ rfl).trans t21) rfl (by omega)) ⟨s, ⟨_, rfl, rfl⟩, hS, fun _ _ => rfl⟩
        | 1, _ => exact stepV rfl rfl (execMvB rfl (hv 0 (by omega) _ rfl _ rfl)) ⟨s, ⟨_, rfl, rfl⟩, hS, fun _ _ => rfl⟩
        | k_ + 2, h_ => exact absurd h_ (by simp)
      rintro _ a X10 h1 h2 h3 h4 hS
      clear BB
      clear FT3
      replace hS : Below V.heap.size V X10 ∧ (Two V X10 (.slice (some ⟨g15, 0, none⟩) n n) (n) (fun j => if j < (i + 1) then (unr (gN d) j : Int) else 0) (.slice (some ⟨gl, 0, none⟩) (n - (i + 1)) cl) (n - (i + 1)) (fun j => (ul (gN d) (i + 1) j : Int))) := hS
      obtain ⟨BB, FT3⟩ := hS
      replace t4 := (h3 4 (by decide)).trans t4
      replace t5 := (h3 5 (by decide)).trans t5
      replace t19 := (h3 19 (by decide)).trans t19
      replace t20 := (h3 20 (by decide)).trans t20
      replace t21 : a.eval (.tmp 21) = .int .i64 ((i + 1 : Nat) : Int) := h4 1 _ rfl _ rfl
      replace A := (⟨h1, h2.trans A.2⟩ : a.tmps.size = 40 ∧ a.defers = [])
      clear h1 h2 h3 h4
      exact ⟨⟨i + 1, _, hlt, A, t4, t5, t19, t20, t21, BB, FT3⟩, by show n - (intOf (a.eval (.tmp 21))).toNat < n - (intOf (Act.eval _ (.tmp 21))).toNat; rw [t21, es]; show n - (i + 1) < n - i; omega⟩
    · rw [decide_eq_false hlt] at t22
      refine wp_cond_false t22 ?_
      refine wp_exit ?_
      first | refine exit_in ?_ | refine exit_then (exit_in ?_) | refine exit_then (exit_then (exit_in ?_))
      clear t22 es
      have hin : i = n := by omega
      rw [hin] at FT
      have FO := FT.ru
      clear FT
      rw [intsL_congr (g := fun j => (unr (gN d) j : Int)) (fun j hj => if_pos hj)] at FO
      refine wp_seq ?_
      refine wp_region_sq (σ := Unit) 40 [(0, 39), (1, 2), (2, 3)] (fun j_ s X => match j_ with | 0 => Below V.heap.size V X ∧ (X.ownsRow V.heap.size 3 1 (.slice (some ⟨g15, 0, none⟩) n n) (n) (intsL (n) (fun j => (unr (gN d) j : Int)))) | 1 => Below V.heap.size V X ∧ (X.ownsRow V.heap.size 3 1 (.slice (some ⟨g15, 0, none⟩) n n) (n) (intsL (n) (fun j => (unr (gN d) j : Int)))) | 2 => Below V.heap.size V X ∧ (X.ownsRow V.heap.size 3 1 (.slice (some ⟨g15, 0, none⟩) n n) (n) (intsL (n) (fun j => (unr (gN d) j : Int)))) | _ => Below V.heap.size V X ∧ (X.ownsRow V.heap.size 3 1 (.slice (some ⟨g15, 0, none⟩) n n) (n) (intsL (n) (fun j => (unr (gN d) j : Int))))) (fun s => fun i_ => match i_ with | 0 => .slice (some ⟨g15, 0, none⟩) n n | 1 => .slice (some ⟨g15, 0, none⟩) n n | 2 => .int .i64 ((0 : Nat) : Int) | _ => undef) () A.1 (by kernel_rfl) (by decide) (by decide) ⟨BB, FO⟩ ?_ ?_
      · intro i_ hi_ s a X hf hv hn hS
        match i_, hi_ with
        | 0, _ => exact stepV rfl rfl (execMvB rfl ((hf 4 (by decide)).trans t4)) ⟨s, ⟨_, rfl, rfl⟩, hS, fun _ _ => rfl⟩
        | 1, _ => exact stepV rfl rfl (execAsgB rfl (hv 0 (by omega) _ rfl _ rfl)) ⟨s, ⟨_, rfl, rfl⟩, hS, fun _ _ => rfl⟩
        | 2, _ => exact stepV rfl rfl (execAsgB rfl rfl) ⟨s, ⟨_, rfl, rfl⟩, hS, fun _ _ => rfl⟩
        | k_ + 3, h_ => exact absurd h_ (by simp)
      rintro _ a X11 h1 h2 h3 h4 hS
      clear BB
      clear FO
      replace hS : Below V.heap.size V X11 ∧ (X11.ownsRow V.heap.size 3 1 (.slice (some ⟨g15, 0, none⟩) n n) (n) (intsL (n) (fun j => (unr (gN d) j : Int)))) := hS
      obtain ⟨BB, FO⟩ := hS
      have t2 : a.eval (.tmp 2) = .slice (some ⟨g15, 0, none⟩) n n := h4 1 _ rfl _ rfl
      have t3 : a.eval (.tmp 3) = .int .i64 ((0 : Nat) : Int) := h4 2 _ rfl _ rfl
      replace A := (⟨h1, h2.trans A.2⟩ : a.tmps.size = 40 ∧ a.defers = [])
      clear h1 h2 h3 h4
      clear t4 t5 t19 t20 t21
      rw [hE, zl_ok]
      refine wp_ret ?_
      refine bodyPost_ret (results_tmp2 rfl _ _ _) A.2 ⟨_, ?_, FO, BB⟩
      show Ending.returned (.tuple #[a.eval (.tmp 2), a.eval (.tmp 3)]) = _
      rw [t2, t3]
  · have hff := Bool.eq_false_iff.2 hf
    have hwf : ∀ X, Below V.heap.size V X → Calls Try.prog 21 #[.slice ia n ic, .int .i64 ((n : Nat) : Int)] X fun e w' => e = .returned (.bool false) ∧ Below X.heap.size X w' := fun X hX => by have h_ := pareBelow n d n _ X (FI.on hX) (by omega) (by omega) (by omega); rw [hff] at h_; exact h_
    refine wp_region_sq (σ := Unit) 40 [(0, 8), (1, 9), (2, 10), (3, 11), (4, 12)] (fun j_ s X => match j_ with | 0 => Below V.heap.size V X | 1 => Below V.heap.size V X | 2 => Below V.heap.size V X | 3 => Below V.heap.size V X | 4 => Below V.heap.size V X | _ => Below V.heap.size V X) (fun s => fun i_ => match i_ with | 0 => .slice ia n ic | 1 => .slice ia n ic | 2 => .int .i64 ((n : Nat) : Int) | 3 => .bool false | 4 => .bool true | _ => undef) () A.1 (by kernel_rfl) (by decide) (by decide) (BB) ?_ ?_
    · intro i_ hi_ s a X hf hv hn hS
      match i_, hi_ with
      | 0, _ => exact stepV rfl rfl (execMvB rfl ((hf 0 (by decide)).trans t0)) ⟨s, ⟨_, rfl, rfl⟩, hS, fun _ _ => rfl⟩
      | 1, _ => exact stepV rfl rfl (execMvB rfl ((hf 0 (by decide)).trans t0)) ⟨s, ⟨_, rfl, rfl⟩, hS, fun _ _ => rfl⟩
      | 2, _ => exact stepV rfl rfl (execLenI (len := n) rfl (hv 1 (by omega) _ rfl _ rfl) ((FI.on hS)).shp) ⟨s, ⟨_, rfl, rfl⟩, hS, fun _ _ => rfl⟩
      | 3, _ => exact stepC rfl rfl (execCall2 Try.func21 (by kernel_rfl) (by kernel_rfl) rfl (hv 0 (by omega) _ rfl _ rfl) (hv 2 (by omega) _ rfl _ rfl)) (hwf X hS) fun e w' hh => ⟨_, hh.1, s, ⟨_, rfl, rfl⟩, (hS).trans ((hh.2).mono (hS).size), fun _ _ => rfl⟩
      | 4, _ => exact stepV rfl rfl (execNot8 rfl (hv 3 (by omega) _ rfl _ rfl)) ⟨s, ⟨_, rfl, rfl⟩, hS, fun _ _ => rfl⟩
      | k_ + 5, h_ => exact absurd h_ (by simp)
    rintro _ a X1 h1 h2 h3 h4 hS
    clear BB
    replace hS : Below V.heap.size V X1 := hS
    have BB := hS
    clear hS
    replace t0 := (h3 0 (by decide)).trans t0
    have t12 : a.eval (.tmp 12) = .bool true := h4 4 _ rfl _ rfl
    replace A := (⟨h1, h2.trans A.2⟩ : a.tmps.size = 40 ∧ a.defers = [])
    clear h1 h2 h3 h4
    refine wp_cond_true t12 ?_
    refine wp_seq ?_
    refine wp_region_sq (σ := Unit) 40 [(0, 2), (1, 3)] (fun j_ s X => match j_ with | 0 => Below V.heap.size V X | 1 => Below V.heap.size V X | _ => Below V.heap.size V X) (fun s => fun i_ => match i_ with | 0 => .slice none 0 0 | 1 => .int .i64 ((110 : Nat) : Int) | _ => undef) () A.1 (by kernel_rfl) (by decide) (by decide) (BB) ?_ ?_
    · intro i_ hi_ s a X hf hv hn hS
      match i_, hi_ with
      | 0, _ => exact stepV rfl rfl (execAsgB rfl rfl) ⟨s, ⟨_, rfl, rfl⟩, hS, fun _ _ => rfl⟩
      | 1, _ => exact stepV rfl rfl (execAsgB rfl rfl) ⟨s, ⟨_, rfl, rfl⟩, hS, fun _ _ => rfl⟩
      | k_ + 2, h_ => exact absurd h_ (by simp)
    rintro _ a X2 h1 h2 h3 h4 hS
    clear BB
    replace hS : Below V.heap.size V X2 := hS
    have BB := hS
    clear hS
    have t2 : a.eval (.tmp 2) = .slice none 0 0 := h4 0 _ rfl _ rfl
    have t3 : a.eval (.tmp 3) = .int .i64 ((110 : Nat) : Int) := h4 1 _ rfl _ rfl
    replace A := (⟨h1, h2.trans A.2⟩ : a.tmps.size = 40 ∧ a.defers = [])
    clear h1 h2 h3 h4
    clear t0
    have hE : unE d n = 110 := if_neg hf
    rw [hE, zl_no (by decide)]
    refine wp_ret ?_
    repeat (first | refine ret_in ?_ | refine ret_then ?_)
    refine bodyPost_ret (results_tmp2 rfl _ _ _) A.2 ⟨_, ?_, World.ownsRow_nil _ _ _ _, BB⟩
    show Ending.returned (.tuple #[a.eval (.tmp 2), a.eval (.tmp 3)]) = _
    rw [t2, t3]
end Go.Proofs.Ytldhhfkplongiaa.Prm
