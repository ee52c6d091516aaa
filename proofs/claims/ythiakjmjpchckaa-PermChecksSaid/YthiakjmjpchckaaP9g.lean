import Derived.Test.YthiakjmjpchckaaP9f
namespace Go.Proofs.Ythiakjmjpchckaa.Prm
open Go.RowKit Gf8 Aes By8 Cel Cf Tap Drw
/- Stage 11's reference: Draws. Written by tools/mkP9g.py. -/

theorem own_offB {W : World} {B n s g k : Nat} {t : TypeId} {v z : Value} {xs : List Value} (h : W.ownsRow B t s v n xs) (hv : v.ownBlock ≠ some g) : (W.setCell ⟨g, k, none⟩ z).ownsRow B t s v n xs := by
  refine ⟨h.1, ?_⟩
  rcases h.2 with h | ⟨g1, cap, cur, e, hB, h1, hr⟩
  · exact Or.inl h
  · refine Or.inr ⟨g1, cap, cur, e, hB, ?_, hr⟩
    subst e
    rw [Below.heap_setCell _ _ _ _ (fun q => hv (by show some g1 = some g; have q2 : g1 = g := q; rw [q2]))]
    exact h1
/-- Three rows of one's own, apart. -/
structure Thr (V W : World) (va vt : Value) (n : Nat) (fa ft : Nat → Int) (u : Value) (nu : Nat) (fu : Nat → Int) : Prop where
  ra : W.ownsRow V.heap.size 3 1 va n (intsL n fa)
  rt : W.ownsRow V.heap.size 3 1 vt n (intsL n ft)
  ru : W.ownsRow V.heap.size 3 1 u nu (intsL nu fu)
  nat : ∀ k, va.ownBlock = some k → vt.ownBlock ≠ some k
  nau : ∀ k, u.ownBlock = some k → va.ownBlock ≠ some k ∧ vt.ownBlock ≠ some k
section
variable {V W W' : World} {va vt u : Value} {n nu g c : Nat} {fa ft fu : Nat → Int}
theorem Thr.on (h : Thr V W va vt n fa ft u nu fu) (b : Below W.heap.size W W') : Thr V W' va vt n fa ft u nu fu := ⟨ownD_below h.ra b, ownD_below h.rt b, ownD_below h.ru b, h.nat, h.nau⟩
theorem Thr.atA {j : Nat} (h : Thr V W va vt n fa ft u nu fu) (e : va = .slice (some ⟨g, 0, none⟩) n c) (hj : j < n) : W.cell? ⟨g, 0 + j, none⟩ = some (.int .i64 (fa j)) ∧ W.frozen? ⟨g, 0 + j, none⟩ = false := by
  have h1 := h.ra
  rw [e] at h1
  exact own_cellI h1 hj
theorem Thr.atT {j : Nat} (h : Thr V W va vt n fa ft u nu fu) (e : vt = .slice (some ⟨g, 0, none⟩) n c) (hj : j < n) : W.cell? ⟨g, 0 + j, none⟩ = some (.int .i64 (ft j)) ∧ W.frozen? ⟨g, 0 + j, none⟩ = false := by
  have h1 := h.rt
  rw [e] at h1
  exact own_cellI h1 hj
theorem Thr.setA {j : Nat} (h : Thr V W va vt n fa ft u nu fu) (e : va = .slice (some ⟨g, 0, none⟩) n c) (z : Int) : Thr V (W.setCell ⟨g, 0 + j, none⟩ (.int .i64 z)) va vt n (fun i => if i = j then z else fa i) ft u nu fu := by
  have hb : va.ownBlock = some g := by rw [e]; rfl
  refine ⟨?_, own_offB h.rt (h.nat g hb), own_offB h.ru (fun q => (h.nau g q).1 hb), h.nat, h.nau⟩
  have h1 := h.ra
  rw [e] at h1 ⊢
  exact own_setF z h1
theorem Thr.setT {j : Nat} (h : Thr V W va vt n fa ft u nu fu) (e : vt = .slice (some ⟨g, 0, none⟩) n c) (z : Int) : Thr V (W.setCell ⟨g, 0 + j, none⟩ (.int .i64 z)) va vt n fa (fun i => if i = j then z else ft i) u nu fu := by
  have hb : vt.ownBlock = some g := by rw [e]; rfl
  refine ⟨own_offB h.ra (fun q => h.nat g q hb), ?_, own_offB h.ru (fun q => (h.nau g q).2 hb), h.nat, h.nau⟩
  have h1 := h.rt
  rw [e] at h1 ⊢
  exact own_setF z h1
theorem Thr.cgA {fa' : Nat → Int} (h : Thr V W va vt n fa ft u nu fu) (e : ∀ j, j < n → fa j = fa' j) : Thr V W va vt n fa' ft u nu fu := ⟨by rw [← intsL_congr e]; exact h.ra, h.rt, h.ru, h.nat, h.nau⟩
theorem Thr.cgT {ft' : Nat → Int} (h : Thr V W va vt n fa ft u nu fu) (e : ∀ j, j < n → ft j = ft' j) : Thr V W va vt n fa ft' u nu fu := ⟨h.ra, by rw [← intsL_congr e]; exact h.rt, h.ru, h.nat, h.nau⟩
end
/-- append to the third of them. -/
theorem stepAppT {V W : World} {va vt u : Value} {n nu g : Nat} {fa ft fu : Nat → Int} {ops : Array Oper} {Q : Exit → Act → World → Prop} {K : Act → World → Prop} {j : Nat} {o : Oper} {a : Act} {s x : Operand} (hos : ops[j]? = some o) (hgd : Region.wanted o (yielded ops a.tmps) = true)
    (ho : o.op = .call { callee := .builtin .append, args := #[s, x], argTypes := #[22, 22] }) (hs : a.eval s = u) (hx : a.eval x = .slice (some ⟨g, 0, none⟩) 1 1) (h : Thr V W va vt n fa ft u nu fu) (hg : W.heap[g]? = some (.cells #[.int .i64 (fu nu)] 3)) (hn : nu + 1 ≤ 17592186044416) (hB : V.heap.size ≤ W.heap.size)
    (hK : ∀ v' W', Thr V W' va vt n fa ft v' (nu + 1) fu → W.grownBy W' u.ownBlock → K (a.put o.dst v') W') : wpOp Try.prog ops Q j K a W := by
  obtain ⟨i, i1, i2, i3, i4⟩ := infoI
  obtain ⟨v', W', run, q1, q2⟩ := execAppO (W := W) (news := [.int .i64 (fu nu)]) ho Try.underlying22 i1 i2 i3 i4 rfl (by decide) hs h.ru hx rfl (fun j u hu => by
    rw [Go.WideShapes.add_plain, cell_of_row _ _ _ _ _ _ hg, Nat.zero_add, ← Array.getElem?_toList]
    exact hu) (fun u hu => by
    obtain rfl := List.mem_singleton.1 hu
    rfl) (by unfold maxLen; omega) (by omega) hB
  obtain ⟨v2, W2, r2, pl⟩ := run_placeI W o.type _ nu g u fu (fu nu) h.ru hg hn
  have r3 : (execOp a.eval o).run Try.prog W = .ok (.value v2) W2 := by
    unfold execOp
    simp only [ho, resolve, invoke, builtin, Sem.run_bind, Sem.run_pure, Result.andThen_ok, List.map_toArray, List.map_cons, List.map_nil, hs, hx, r2]
  have r4 := run.symm.trans r3
  injection r4 with e1 e2
  injection e1 with e1
  subst e1
  rw [← intsL_succ] at q1
  refine stepV hos hgd run (hK v' W' ⟨ownW_grown h.ra q2 (fun k e q => (h.nau k q).1 e), ownW_grown h.rt q2 (fun k e q => (h.nau k q).2 e), q1, h.nat, fun k e => ?_⟩ q2)
  rcases pl k e with e3 | e3
  · exact h.nau k e3
  · exact ⟨fun q => by have := (h.ra.lt k q).2; omega, fun q => by have := (h.rt.lt k q).2; omega⟩
theorem dr_a {n I J w Y k : Nat} {g : Nat → Nat} (hnext : drA n g (k + 1) = swp (drA n g k) I J) (eY : drA n g k I = Y) (hAJ : drA n g k J = w) (j : Nat) : (fun i => if i = J then ((Y : Nat) : Int) else (fun j => if j = I then ((w : Nat) : Int) else (fun j => (drA n g k j : Int)) j) i) j = (fun j => (drA n g (k + 1) j : Int)) j := by
  show (if j = J then ((Y : Nat) : Int) else if j = I then ((w : Nat) : Int) else (drA n g k j : Int)) = ((drA n g (k + 1) j : Nat) : Int)
  rw [hnext]
  by_cases q : j = J
  · subst q
    rw [if_pos rfl, swp_j, eY]
  · rw [if_neg q]
    by_cases q2 : j = I
    · subst q2
      rw [if_pos rfl, swp_i, hAJ]
    · rw [if_neg q2, swp_o q2 q]
theorem dr_t {n I J w Y k : Nat} {g : Nat → Nat} (hP : IsP (drA n g k) n) (hI : I < n) (hJ : J < n) (hnext : drA n g (k + 1) = swp (drA n g k) I J) (eY : drA n g k I = Y) (hAJ : drA n g k J = w) {j : Nat} (hj : j < n) : (fun i => if i = w then ((I : Nat) : Int) else (fun j => if j = Y then ((J : Nat) : Int) else (fun j => (posN (drA n g k) j n : Int)) j) i) j = (fun j => (posN (drA n g (k + 1)) j n : Int)) j := by
  show (if j = w then ((I : Nat) : Int) else if j = Y then ((J : Nat) : Int) else (posN (drA n g k) j n : Int)) = ((posN (drA n g (k + 1)) j n : Nat) : Int)
  rw [hnext]
  have hB := isP_swp hP hI hJ
  by_cases q : j = w
  · subst q
    have h1 : posN (swp (drA n g k) I J) (swp (drA n g k) I J I) n = I := inv_of hB hI
    rw [swp_i, hAJ] at h1
    rw [if_pos rfl, h1]
  · rw [if_neg q]
    by_cases q2 : j = Y
    · subst q2
      have h1 : posN (swp (drA n g k) I J) (swp (drA n g k) I J J) n = J := inv_of hB hJ
      rw [swp_j, eY] at h1
      rw [if_pos rfl, h1]
    · rw [if_neg q2]
      obtain ⟨i, hi, e⟩ := surj hP j hj
      have h1 : posN (drA n g k) (drA n g k i) n = i := inv_of hP hi
      have h2 : posN (swp (drA n g k) I J) (swp (drA n g k) I J i) n = i := inv_of hB hi
      have n1 : i ≠ I := fun z => q2 (by rw [← e, z]; exact eY)
      have n2 : i ≠ J := fun z => q (by rw [← e, z]; exact hAJ)
      rw [swp_o n1 n2, e] at h2
      rw [e] at h1
      rw [h1, h2]
set_option maxRecDepth 100000 in
set_option maxHeartbeats 4000000 in
/-- The reference's Draws. -/
theorem rdraws (f : Nat → Int) (n : Nat) (v : Value) (V : World) (hv : SliceI V v n f) (hn17 : n ≤ 17592186044416) :
    Calls Try.prog 12 #[v] V fun e w' => ∃ r, e = .returned (.tuple #[r, .int .i64 ((pE f n : Nat) : Int)]) ∧ w'.ownsRow V.heap.size 3 1 r (zl (pE f n) (n - 1)) (intsL (zl (pE f n) (n - 1)) (fun j => (drD n (gN f) j : Int))) ∧ Below V.heap.size V w' := by
  obtain ⟨ia, ic, rfl, -, -, hsh⟩ := id hv.shape
  have FI := hv
  go_enter Try.func12, Try.ntmps12
  refine wp_seq ?_
  refine wp_region_sqK 63 [(0, 2), (1, 3)] (fun i_ => match i_ with | 0 => .slice none 0 0 | 1 => .int .i64 ((0 : Nat) : Int) | _ => undef) rfl (by kernel_rfl) (by decide) (by decide) ?_ ?_
  · intro i_ hi_ a hf hv hn
    match i_, hi_ with
    | 0, _ => exact stepV rfl rfl (execAsgB rfl rfl) ⟨⟨_, rfl, rfl⟩, rfl⟩
    | 1, _ => exact stepV rfl rfl (execAsgB rfl rfl) ⟨⟨_, rfl, rfl⟩, rfl⟩
    | k_ + 2, h_ => exact absurd h_ (by simp)
  intro a h1 h2 h3 h4
  have t0 : a.eval (.tmp 0) = .slice ia n ic := (h3 0 (by decide)).trans rfl
  have A : a.tmps.size = 63 ∧ a.defers = [] := ⟨h1, h2⟩
  have BW : Below V.heap.size V V := Below.refl _ _
  clear h1 h2 h3 h4
  have BB := BW
  refine wp_seq ?_
  refine wp_seq ?_
  by_cases hok : okQ f n n = true
  · refine wp_region_sq (σ := Unit) 63 [(0, 11), (1, 12), (2, 13)] (fun j_ s X => match j_ with | 0 => Below V.heap.size V X | 1 => Below V.heap.size V X | 2 => Below V.heap.size V X | _ => Below V.heap.size V X) (fun s => fun i_ => match i_ with | 0 => .slice ia n ic | 1 => .int .i64 ((pE f n : Nat) : Int) | 2 => .bool false | _ => undef) () A.1 (by kernel_rfl) (by decide) (by decide) (BB) ?_ ?_
    · intro i_ hi_ s a X hf hv hn hS
      match i_, hi_ with
      | 0, _ => exact stepV rfl rfl (execMvB rfl ((hf 0 (by decide)).trans t0)) ⟨s, ⟨_, rfl, rfl⟩, hS, fun _ _ => rfl⟩
      | 1, _ => exact stepC rfl rfl (execCall1 Try.func33 (by kernel_rfl) (by kernel_rfl) rfl (hv 0 (by omega) _ rfl _ rfl)) (rcheck f n _ X (FI.on hS) hn17) fun e w' hh => ⟨_, hh.1, s, ⟨_, rfl, rfl⟩, (hS).trans ((hh.2).mono (hS).size), fun _ _ => rfl⟩
      | 2, _ => exact stepV rfl rfl (execDec (execNeN (p := pE f n) (q := 0) rfl (hv 1 (by omega) _ rfl _ rfl) rfl) (decide_eq_false (by have := pE_ok hok; omega))) ⟨s, ⟨_, rfl, rfl⟩, hS, fun _ _ => rfl⟩
      | k_ + 3, h_ => exact absurd h_ (by simp)
    rintro _ a X1 h1 h2 h3 h4 hS
    clear BB
    replace hS : Below V.heap.size V X1 := hS
    have BB := hS
    clear hS
    replace t0 := (h3 0 (by decide)).trans t0
    have t13 : a.eval (.tmp 13) = .bool false := h4 2 _ rfl _ rfl
    replace A := (⟨h1, h2.trans A.2⟩ : a.tmps.size = 63 ∧ a.defers = [])
    clear h1 h2 h3 h4
    refine wp_cond_false t13 ?_
    refine wp_skip ?_
    clear t13
    obtain ⟨hrange, _⟩ := okQ_iff.1 hok
    have hP : IsP (gN f) n := isP_of hok
    refine wp_seq ?_
    refine wp_region_sq (σ := Value × Value) 63 [(0, 14), (1, 15), (2, 16), (3, 17), (4, 18), (5, 19), (6, 4), (7, 5)] (fun j_ s X => match j_ with | 0 => Below V.heap.size V X | 1 => Below V.heap.size V X | 2 => Below V.heap.size V X | 3 => Below V.heap.size V X ∧ (X.ownsRow V.heap.size 3 1 s.1 (n) (intsL (n) (fun j => (j : Int)))) | 4 => Below V.heap.size V X ∧ (X.ownsRow V.heap.size 3 1 s.1 (n) (intsL (n) (fun j => (j : Int)))) | 5 => Below V.heap.size V X ∧ (X.ownsRow V.heap.size 3 1 s.1 (n) (intsL (n) (fun j => (j : Int)))) | 6 => Below V.heap.size V X ∧ (X.ownsRow V.heap.size 3 1 s.1 (n) (intsL (n) (fun j => (j : Int)))) ∧ (X.ownsRow V.heap.size 3 1 s.2 (n) (intsL (n) (fun j => (j : Int)))) ∧ (∀ k, s.1.ownBlock = some k → s.2.ownBlock ≠ some k) | 7 => Below V.heap.size V X ∧ (X.ownsRow V.heap.size 3 1 s.1 (n) (intsL (n) (fun j => (j : Int)))) ∧ (X.ownsRow V.heap.size 3 1 s.2 (n) (intsL (n) (fun j => (j : Int)))) ∧ (∀ k, s.1.ownBlock = some k → s.2.ownBlock ≠ some k) | _ => Below V.heap.size V X ∧ (X.ownsRow V.heap.size 3 1 s.1 (n) (intsL (n) (fun j => (j : Int)))) ∧ (X.ownsRow V.heap.size 3 1 s.2 (n) (intsL (n) (fun j => (j : Int)))) ∧ (∀ k, s.1.ownBlock = some k → s.2.ownBlock ≠ some k)) (fun s => fun i_ => match i_ with | 0 => .slice ia n ic | 1 => .int .i64 ((n : Nat) : Int) | 2 => s.1 | 3 => .slice ia n ic | 4 => .int .i64 ((n : Nat) : Int) | 5 => s.2 | 6 => s.1 | 7 => s.2 | _ => undef) (undef, undef) A.1 (by kernel_rfl) (by decide) (by decide) (BB) ?_ ?_
    · intro i_ hi_ s a X hf hv hn hS
      match i_, hi_ with
      | 0, _ => exact stepV rfl rfl (execMvB rfl ((hf 0 (by decide)).trans t0)) ⟨s, ⟨_, rfl, rfl⟩, hS, fun _ _ => rfl⟩
      | 1, _ => exact stepV rfl rfl (execLenI (len := n) rfl (hv 0 (by omega) _ rfl _ rfl) ((FI.on hS)).shp) ⟨s, ⟨_, rfl, rfl⟩, hS, fun _ _ => rfl⟩
      | 2, _ =>
        refine stepC rfl rfl (execCall1 Try.func23 (by kernel_rfl) (by kernel_rfl) rfl (hv 1 (by omega) _ rfl _ rfl)) (rident (n : Int) X (by omega)) fun e w' hh => ?_
        obtain ⟨r_, he, hk, hb⟩ := hh
        rw [Int.toNat_natCast] at hk
        refine ⟨_, he, (r_, s.2), ⟨_, rfl, rfl⟩, ⟨(hS).trans ((hb).mono (hS).size), ownD_base hk (hS).size⟩, fun i hi => ?_⟩
        match i, hi with
        | 0, _ => rfl
        | 1, _ => rfl
        | n_ + 2, h_ => omega
      | 3, _ => exact stepV rfl rfl (execMvB rfl ((hf 0 (by decide)).trans t0)) ⟨s, ⟨_, rfl, rfl⟩, hS, fun _ _ => rfl⟩
      | 4, _ => exact stepV rfl rfl (execLenI (len := n) rfl (hv 3 (by omega) _ rfl _ rfl) ((FI.on hS.1)).shp) ⟨s, ⟨_, rfl, rfl⟩, hS, fun _ _ => rfl⟩
      | 5, _ =>
        refine stepC rfl rfl (execCall1 Try.func23 (by kernel_rfl) (by kernel_rfl) rfl (hv 4 (by omega) _ rfl _ rfl)) (rident (n : Int) X (by omega)) fun e w' hh => ?_
        obtain ⟨r_, he, hk, hb⟩ := hh
        rw [Int.toNat_natCast] at hk
        refine ⟨_, he, (s.1, r_), ⟨_, rfl, rfl⟩, ⟨(hS.1).trans ((hb).mono (hS.1).size), (ownD_below hS.2 hb), ownD_base hk (hS.1).size, fun k e q => by have a1 := (hS.2.lt k e).2; have a2 := (hk.lt k q).1; omega⟩, fun i hi => ?_⟩
        match i, hi with
        | 0, _ => rfl
        | 1, _ => rfl
        | 2, _ => rfl
        | 3, _ => rfl
        | 4, _ => rfl
        | n_ + 5, h_ => omega
      | 6, _ => exact stepV rfl rfl (execAsgB rfl (hv 2 (by omega) _ rfl _ rfl)) ⟨s, ⟨_, rfl, rfl⟩, hS, fun _ _ => rfl⟩
      | 7, _ => exact stepV rfl rfl (execAsgB rfl (hv 5 (by omega) _ rfl _ rfl)) ⟨s, ⟨_, rfl, rfl⟩, hS, fun _ _ => rfl⟩
      | k_ + 8, h_ => exact absurd h_ (by simp)
    rintro ⟨v16, v19⟩ a X3 h1 h2 h3 h4 hS
    clear BB
    replace hS : Below V.heap.size V X3 ∧ (X3.ownsRow V.heap.size 3 1 v16 (n) (intsL (n) (fun j => (j : Int)))) ∧ (X3.ownsRow V.heap.size 3 1 v19 (n) (intsL (n) (fun j => (j : Int)))) ∧ (∀ k, v16.ownBlock = some k → v19.ownBlock ≠ some k) := hS
    obtain ⟨BB, Fv16, Fv19, Fnat⟩ := hS
    replace t0 := (h3 0 (by decide)).trans t0
    have t4 : a.eval (.tmp 4) = v16 := h4 6 _ rfl _ rfl
    have t5 : a.eval (.tmp 5) = v19 := h4 7 _ rfl _ rfl
    replace A := (⟨h1, h2.trans A.2⟩ : a.tmps.size = 63 ∧ a.defers = [])
    clear h1 h2 h3 h4
    refine wp_seq ?_
    refine wp_region_sq (σ := Unit) 63 [(0, 6)] (fun j_ s X => match j_ with | 0 => Below V.heap.size V X ∧ (X.ownsRow V.heap.size 3 1 v16 (n) (intsL (n) (fun j => (j : Int)))) ∧ (X.ownsRow V.heap.size 3 1 v19 (n) (intsL (n) (fun j => (j : Int)))) ∧ (∀ k, v16.ownBlock = some k → v19.ownBlock ≠ some k) | _ => Below V.heap.size V X ∧ (X.ownsRow V.heap.size 3 1 v16 (n) (intsL (n) (fun j => (j : Int)))) ∧ (X.ownsRow V.heap.size 3 1 v19 (n) (intsL (n) (fun j => (j : Int)))) ∧ (∀ k, v16.ownBlock = some k → v19.ownBlock ≠ some k)) (fun s => fun i_ => match i_ with | 0 => .slice none 0 0 | _ => undef) () A.1 (by kernel_rfl) (by decide) (by decide) ⟨BB, Fv16, Fv19, Fnat⟩ ?_ ?_
    · intro i_ hi_ s a X hf hv hn hS
      match i_, hi_ with
      | 0, _ => exact stepV rfl rfl (execAsgB rfl rfl) ⟨s, ⟨_, rfl, rfl⟩, hS, fun _ _ => rfl⟩
      | k_ + 1, h_ => exact absurd h_ (by simp)
    rintro _ a X4 h1 h2 h3 h4 hS
    clear BB
    clear Fv16
    clear Fv19
    clear Fnat
    replace hS : Below V.heap.size V X4 ∧ (X4.ownsRow V.heap.size 3 1 v16 (n) (intsL (n) (fun j => (j : Int)))) ∧ (X4.ownsRow V.heap.size 3 1 v19 (n) (intsL (n) (fun j => (j : Int)))) ∧ (∀ k, v16.ownBlock = some k → v19.ownBlock ≠ some k) := hS
    obtain ⟨BB, Fv16, Fv19, Fnat⟩ := hS
    replace t0 := (h3 0 (by decide)).trans t0
    replace t4 := (h3 4 (by decide)).trans t4
    replace t5 := (h3 5 (by decide)).trans t5
    have t6 : a.eval (.tmp 6) = .slice none 0 0 := h4 0 _ rfl _ rfl
    replace A := (⟨h1, h2.trans A.2⟩ : a.tmps.size = 63 ∧ a.defers = [])
    clear h1 h2 h3 h4
    have FT : Thr V X4 v16 v19 n (fun j => (drA n (gN f) 0 j : Int)) (fun j => (posN (drA n (gN f) 0) j n : Int)) (.slice none 0 0) 0 (fun j => (drD n (gN f) j : Int)) := ⟨Fv16, by rw [intsL_congr (g := fun j => (j : Int)) (fun j hj => by rw [show posN (drA n (gN f) 0) j n = j from inv_of (isP_id n) hj])]; exact Fv19, World.ownsRow_nil _ _ _ _, Fnat, fun k e => by cases e⟩
    clear Fv16 Fv19 Fnat
    refine wp_seq ?_
    refine wp_seq ?_
    refine wp_region_sq (σ := Unit) 63 [(0, 20), (1, 21), (2, 22), (3, 7)] (fun j_ s X => match j_ with | 0 => Below V.heap.size V X ∧ (Thr V X v16 v19 n (fun j => (drA n (gN f) 0 j : Int)) (fun j => (posN (drA n (gN f) 0) j n : Int)) (.slice none 0 0) 0 (fun j => (drD n (gN f) j : Int))) | 1 => Below V.heap.size V X ∧ (Thr V X v16 v19 n (fun j => (drA n (gN f) 0 j : Int)) (fun j => (posN (drA n (gN f) 0) j n : Int)) (.slice none 0 0) 0 (fun j => (drD n (gN f) j : Int))) | 2 => Below V.heap.size V X ∧ (Thr V X v16 v19 n (fun j => (drA n (gN f) 0 j : Int)) (fun j => (posN (drA n (gN f) 0) j n : Int)) (.slice none 0 0) 0 (fun j => (drD n (gN f) j : Int))) | 3 => Below V.heap.size V X ∧ (Thr V X v16 v19 n (fun j => (drA n (gN f) 0 j : Int)) (fun j => (posN (drA n (gN f) 0) j n : Int)) (.slice none 0 0) 0 (fun j => (drD n (gN f) j : Int))) | _ => Below V.heap.size V X ∧ (Thr V X v16 v19 n (fun j => (drA n (gN f) 0 j : Int)) (fun j => (posN (drA n (gN f) 0) j n : Int)) (.slice none 0 0) 0 (fun j => (drD n (gN f) j : Int)))) (fun s => fun i_ => match i_ with | 0 => .slice ia n ic | 1 => .int .i64 ((n : Nat) : Int) | 2 => .int .i64 ((n : Int) - 1 - ((0 : Nat) : Int)) | 3 => .int .i64 ((n : Int) - 1 - ((0 : Nat) : Int)) | _ => undef) () A.1 (by kernel_rfl) (by decide) (by decide) ⟨BB, FT⟩ ?_ ?_
    · intro i_ hi_ s a X hf hv hn hS
      match i_, hi_ with
      | 0, _ => exact stepV rfl rfl (execMvB rfl ((hf 0 (by decide)).trans t0)) ⟨s, ⟨_, rfl, rfl⟩, hS, fun _ _ => rfl⟩
      | 1, _ => exact stepV rfl rfl (execLenI (len := n) rfl (hv 0 (by omega) _ rfl _ rfl) ((FI.on hS.1)).shp) ⟨s, ⟨_, rfl, rfl⟩, hS, fun _ _ => rfl⟩
      | 2, _ => exact stepV rfl rfl (execSubIg (z := (n : Int) - 1 - ((0 : Nat) : Int)) rfl (hv 1 (by omega) _ rfl _ rfl) rfl (by omega) (by omega) (by omega)) ⟨s, ⟨_, rfl, rfl⟩, hS, fun _ _ => rfl⟩
      | 3, _ => exact stepV rfl rfl (execAsgB rfl (hv 2 (by omega) _ rfl _ rfl)) ⟨s, ⟨_, rfl, rfl⟩, hS, fun _ _ => rfl⟩
      | k_ + 4, h_ => exact absurd h_ (by simp)
    rintro _ a X5 h1 h2 h3 h4 hS
    clear BB
    clear FT
    replace hS : Below V.heap.size V X5 ∧ (Thr V X5 v16 v19 n (fun j => (drA n (gN f) 0 j : Int)) (fun j => (posN (drA n (gN f) 0) j n : Int)) (.slice none 0 0) 0 (fun j => (drD n (gN f) j : Int))) := hS
    obtain ⟨BB, FT⟩ := hS
    replace t0 := (h3 0 (by decide)).trans t0
    replace t4 := (h3 4 (by decide)).trans t4
    replace t5 := (h3 5 (by decide)).trans t5
    replace t6 := (h3 6 (by decide)).trans t6
    have t7 : a.eval (.tmp 7) = .int .i64 ((n : Int) - 1 - ((0 : Nat) : Int)) := h4 3 _ rfl _ rfl
    replace A := (⟨h1, h2.trans A.2⟩ : a.tmps.size = 63 ∧ a.defers = [])
    clear h1 h2 h3 h4
    refine wp_block ?_
    refine wp_loop (fun a W => ∃ (k : Nat) (u : Value), k ≤ n - 1 ∧ (a.tmps.size = 63 ∧ a.defers = []) ∧ a.eval (.tmp 0) = .slice ia n ic ∧ a.eval (.tmp 4) = v16 ∧ a.eval (.tmp 5) = v19 ∧ a.eval (.tmp 6) = u ∧ a.eval (.tmp 7) = .int .i64 ((n : Int) - 1 - (k : Int)) ∧ Below V.heap.size V W ∧ (Thr V W v16 v19 n (fun j => (drA n (gN f) k j : Int)) (fun j => (posN (drA n (gN f) k) j n : Int)) u k (fun j => (drD n (gN f) j : Int)))) (fun a _ => (intOf (a.eval (.tmp 7))).toNat) ⟨0, _, Nat.zero_le _, A, t0, t4, t5, t6, t7, BB, FT⟩ ?_
    clear A t0 t4 t5 t6 t7 BB FT a
    rintro a XL ⟨k, u, hk, A, t0, t4, t5, t6, t7, BB, FT⟩
    have es := t7
    refine wp_seq ?_
    refine wp_seq ?_
    refine wp_region_sq (σ := Unit) 63 [(0, 23), (1, 24)] (fun j_ s X => match j_ with | 0 => Below V.heap.size V X ∧ (Thr V X v16 v19 n (fun j => (drA n (gN f) k j : Int)) (fun j => (posN (drA n (gN f) k) j n : Int)) u k (fun j => (drD n (gN f) j : Int))) | 1 => Below V.heap.size V X ∧ (Thr V X v16 v19 n (fun j => (drA n (gN f) k j : Int)) (fun j => (posN (drA n (gN f) k) j n : Int)) u k (fun j => (drD n (gN f) j : Int))) | _ => Below V.heap.size V X ∧ (Thr V X v16 v19 n (fun j => (drA n (gN f) k j : Int)) (fun j => (posN (drA n (gN f) k) j n : Int)) u k (fun j => (drD n (gN f) j : Int)))) (fun s => fun i_ => match i_ with | 0 => .int .i64 ((n : Int) - 1 - (k : Int)) | 1 => .bool (decide (0 < (n : Int) - 1 - (k : Int))) | _ => undef) () A.1 (by kernel_rfl) (by decide) (by decide) ⟨BB, FT⟩ ?_ ?_
    · intro i_ hi_ s a X hf hv hn hS
      match i_, hi_ with
      | 0, _ => exact stepV rfl rfl (execMvB rfl ((hf 7 (by decide)).trans t7)) ⟨s, ⟨_, rfl, rfl⟩, hS, fun _ _ => rfl⟩
      | 1, _ => exact stepV rfl rfl (execGtIg (q := 0) rfl (hv 0 (by omega) _ rfl _ rfl) rfl) ⟨s, ⟨_, rfl, rfl⟩, hS, fun _ _ => rfl⟩
      | k_ + 2, h_ => exact absurd h_ (by simp)
    rintro _ a X6 h1 h2 h3 h4 hS
    clear BB
    clear FT
    replace hS : Below V.heap.size V X6 ∧ (Thr V X6 v16 v19 n (fun j => (drA n (gN f) k j : Int)) (fun j => (posN (drA n (gN f) k) j n : Int)) u k (fun j => (drD n (gN f) j : Int))) := hS
    obtain ⟨BB, FT⟩ := hS
    replace t0 := (h3 0 (by decide)).trans t0
    replace t4 := (h3 4 (by decide)).trans t4
    replace t5 := (h3 5 (by decide)).trans t5
    replace t6 := (h3 6 (by decide)).trans t6
    replace t7 := (h3 7 (by decide)).trans t7
    have t24 : a.eval (.tmp 24) = .bool (decide (0 < (n : Int) - 1 - (k : Int))) := h4 1 _ rfl _ rfl
    replace A := (⟨h1, h2.trans A.2⟩ : a.tmps.size = 63 ∧ a.defers = [])
    clear h1 h2 h3 h4
    by_cases hlt : 0 < (n : Int) - 1 - (k : Int)
    · rw [decide_eq_true hlt] at t24
      refine wp_cond_true t24 ?_
      refine wp_skip ?_
      clear t24
      refine wp_seq ?_
      refine wp_block ?_
      obtain ⟨I, eI⟩ : ∃ I : Nat, n - 1 - k = I := ⟨_, rfl⟩
      have eI2 : (n : Int) - 1 - (k : Int) = (I : Int) := by omega
      rw [eI2] at t7
      have hI : I < n := by omega
      have hIk : I = n - k - 1 := by omega
      obtain ⟨w, ew⟩ : ∃ w : Nat, f I = w := ⟨(f I).toNat, by have := hrange I hI; omega⟩
      have hw : w < n := by have := hrange I hI; omega
      have hg : gN f I = w := by show (f I).toNat = w; omega
      obtain ⟨hPA, hdone⟩ := drA_done hP (k := k) (by omega)
      obtain ⟨J, eJ⟩ : ∃ J, posN (drA n (gN f) k) w n = J := ⟨_, rfl⟩
      have hinv := inv_at hPA hw
      have hJn : J < n := by rw [← eJ]; exact hinv.1
      have hAJ : drA n (gN f) k J = w := by rw [← eJ]; exact hinv.2
      have hdr : drD n (gN f) k = J := by
        have h1 := drD_lt (f := gN f) (n := n) (k := k) (by omega)
        have h2 : drA n (gN f) k (drD n (gN f) k) = w := by
          unfold drD
          rw [eI, hg]
          refine posN_at (j := J) ?_ hAJ
          rcases Nat.lt_or_ge J (n - k) with q | q
          · exact q
          · have h3 := hdone J q hJn
            rw [hAJ, ← hg] at h3
            have := hP.inj I J hI hJn h3
            omega
        exact hPA.inj _ _ (by omega) hJn (h2.trans hAJ.symm)
      have hnext : drA n (gN f) (k + 1) = swp (drA n (gN f) k) I J := by
        show swp (drA n (gN f) k) (n - 1 - k) (drD n (gN f) k) = _
        rw [eI, hdr]
      obtain ⟨Y, eY⟩ : ∃ Y, drA n (gN f) k I = Y := ⟨_, rfl⟩
      have hY : Y < n := by rw [← eY]; exact hPA.lt I hI
      obtain ⟨ib, io, rfl, hib, hcell⟩ := hsh (by omega)
      have cW : ∀ X, Below V.heap.size V X → X.cell? ⟨ib, io + I, none⟩ = some (.int .i64 ((w : Nat) : Int)) := fun X hX => by rw [cell_below hX hib, hcell I hI, ew]
      obtain ⟨ga, ca, ea, hga, _⟩ := ownL_some9 FT.ra (by omega)
      obtain ⟨gt, ct, et, hgt, _⟩ := ownL_some9 FT.rt (by omega)
      refine wp_seq ?_
      refine wp_region_sq (σ := Unit) 63 [(0, 27), (1, 28), (2, 29), (3, 30), (4, 31), (5, 32), (6, 33), (7, 8)] (fun j_ s X => match j_ with | 0 => Below V.heap.size V X ∧ (Thr V X v16 v19 n (fun j => (drA n (gN f) k j : Int)) (fun j => (posN (drA n (gN f) k) j n : Int)) u k (fun j => (drD n (gN f) j : Int))) | 1 => Below V.heap.size V X ∧ (Thr V X v16 v19 n (fun j => (drA n (gN f) k j : Int)) (fun j => (posN (drA n (gN f) k) j n : Int)) u k (fun j => (drD n (gN f) j : Int))) | 2 => Below V.heap.size V X ∧ (Thr V X v16 v19 n (fun j => (drA n (gN f) k j : Int)) (fun j => (posN (drA n (gN f) k) j n : Int)) u k (fun j => (drD n (gN f) j : Int))) | 3 => Below V.heap.size V X ∧ (Thr V X v16 v19 n (fun j => (drA n (gN f) k j : Int)) (fun j => (posN (drA n (gN f) k) j n : Int)) u k (fun j => (drD n (gN f) j : Int))) | 4 => Below V.heap.size V X ∧ (Thr V X v16 v19 n (fun j => (drA n (gN f) k j : Int)) (fun j => (posN (drA n (gN f) k) j n : Int)) u k (fun j => (drD n (gN f) j : Int))) | 5 => Below V.heap.size V X ∧ (Thr V X v16 v19 n (fun j => (drA n (gN f) k j : Int)) (fun j => (posN (drA n (gN f) k) j n : Int)) u k (fun j => (drD n (gN f) j : Int))) | 6 => Below V.heap.size V X ∧ (Thr V X v16 v19 n (fun j => (drA n (gN f) k j : Int)) (fun j => (posN (drA n (gN f) k) j n : Int)) u k (fun j => (drD n (gN f) j : Int))) | 7 => Below V.heap.size V X ∧ (Thr V X v16 v19 n (fun j => (drA n (gN f) k j : Int)) (fun j => (posN (drA n (gN f) k) j n : Int)) u k (fun j => (drD n (gN f) j : Int))) | _ => Below V.heap.size V X ∧ (Thr V X v16 v19 n (fun j => (drA n (gN f) k j : Int)) (fun j => (posN (drA n (gN f) k) j n : Int)) u k (fun j => (drD n (gN f) j : Int)))) (fun s => fun i_ => match i_ with | 0 => v19 | 1 => .slice (some ⟨ib, io, none⟩) n ic | 2 => .int .i64 ((I : Nat) : Int) | 3 => .pointer (some ⟨ib, io + I, none⟩) | 4 => .int .i64 ((w : Nat) : Int) | 5 => .pointer (some ⟨gt, 0 + w, none⟩) | 6 => .int .i64 ((J : Nat) : Int) | 7 => .int .i64 ((J : Nat) : Int) | _ => undef) () A.1 (by kernel_rfl) (by decide) (by decide) ⟨BB, FT⟩ ?_ ?_
      · intro i_ hi_ s a X hf hv hn hS
        match i_, hi_ with
        | 0, _ => exact stepV rfl rfl (execMvB rfl ((hf 5 (by decide)).trans t5)) ⟨s, ⟨_, rfl, rfl⟩, hS, fun _ _ => rfl⟩
        | 1, _ => exact stepV rfl rfl (execMvB rfl ((hf 0 (by decide)).trans t0)) ⟨s, ⟨_, rfl, rfl⟩, hS, fun _ _ => rfl⟩
        | 2, _ => exact stepV rfl rfl (execMvB rfl ((hf 7 (by decide)).trans t7)) ⟨s, ⟨_, rfl, rfl⟩, hS, fun _ _ => rfl⟩
        | 3, _ => exact stepV rfl rfl (execIdxN (k := I) rfl (hv 1 (by omega) _ rfl _ rfl) (hv 2 (by omega) _ rfl _ rfl) hI) ⟨s, ⟨_, rfl, rfl⟩, hS, fun _ _ => rfl⟩
        | 4, _ => exact stepV rfl rfl (execLd3 rfl (hv 3 (by omega) _ rfl _ rfl) (cW X hS.1)) ⟨s, ⟨_, rfl, rfl⟩, hS, fun _ _ => rfl⟩
        | 5, _ => exact stepV rfl rfl (execIdxN (k := w) rfl ((hv 0 (by omega) _ rfl _ rfl).trans et) (hv 4 (by omega) _ rfl _ rfl) hw) ⟨s, ⟨_, rfl, rfl⟩, hS, fun _ _ => rfl⟩
        | 6, _ => exact stepV rfl rfl (execLd3 rfl (hv 5 (by omega) _ rfl _ rfl) (by rw [(hS.2.atT et hw).1, eJ])) ⟨s, ⟨_, rfl, rfl⟩, hS, fun _ _ => rfl⟩
        | 7, _ => exact stepV rfl rfl (execAsgB rfl (hv 6 (by omega) _ rfl _ rfl)) ⟨s, ⟨_, rfl, rfl⟩, hS, fun _ _ => rfl⟩
        | k_ + 8, h_ => exact absurd h_ (by simp)
      rintro _ a X8 h1 h2 h3 h4 hS
      clear BB
      clear FT
      replace hS : Below V.heap.size V X8 ∧ (Thr V X8 v16 v19 n (fun j => (drA n (gN f) k j : Int)) (fun j => (posN (drA n (gN f) k) j n : Int)) u k (fun j => (drD n (gN f) j : Int))) := hS
      obtain ⟨BB, FT⟩ := hS
      replace t0 := (h3 0 (by decide)).trans t0
      replace t4 := (h3 4 (by decide)).trans t4
      replace t5 := (h3 5 (by decide)).trans t5
      replace t6 := (h3 6 (by decide)).trans t6
      replace t7 := (h3 7 (by decide)).trans t7
      have t8 : a.eval (.tmp 8) = .int .i64 ((J : Nat) : Int) := h4 7 _ rfl _ rfl
      replace A := (⟨h1, h2.trans A.2⟩ : a.tmps.size = 63 ∧ a.defers = [])
      clear h1 h2 h3 h4
      refine wp_seq ?_
      refine wp_region_sq (σ := Nat × Value) 63 [(0, 34), (1, 35), (2, 36), (3, 37), (4, 6)] (fun j_ s X => match j_ with | 0 => Below V.heap.size V X ∧ (Thr V X v16 v19 n (fun j => (drA n (gN f) k j : Int)) (fun j => (posN (drA n (gN f) k) j n : Int)) u k (fun j => (drD n (gN f) j : Int))) | 1 => Below V.heap.size V X ∧ (Thr V X v16 v19 n (fun j => (drA n (gN f) k j : Int)) (fun j => (posN (drA n (gN f) k) j n : Int)) u k (fun j => (drD n (gN f) j : Int))) | 2 => Below V.heap.size V X ∧ (Thr V X v16 v19 n (fun j => (drA n (gN f) k j : Int)) (fun j => (posN (drA n (gN f) k) j n : Int)) u k (fun j => (drD n (gN f) j : Int))) | 3 => Below V.heap.size V X ∧ (Thr V X v16 v19 n (fun j => (drA n (gN f) k j : Int)) (fun j => (posN (drA n (gN f) k) j n : Int)) u k (fun j => (drD n (gN f) j : Int))) ∧ (X.heap[s.1]? = some (.cells #[.int .i64 ((drD n (gN f) k : Nat) : Int)] 3)) | 4 => Below V.heap.size V X ∧ (Thr V X v16 v19 n (fun j => (drA n (gN f) k j : Int)) (fun j => (posN (drA n (gN f) k) j n : Int)) s.2 (k + 1) (fun j => (drD n (gN f) j : Int))) | _ => Below V.heap.size V X ∧ (Thr V X v16 v19 n (fun j => (drA n (gN f) k j : Int)) (fun j => (posN (drA n (gN f) k) j n : Int)) s.2 (k + 1) (fun j => (drD n (gN f) j : Int)))) (fun s => fun i_ => match i_ with | 0 => u | 1 => .int .i64 ((J : Nat) : Int) | 2 => .slice (some ⟨s.1, 0, none⟩) 1 1 | 3 => s.2 | 4 => s.2 | _ => undef) (0, undef) A.1 (by kernel_rfl) (by decide) (by decide) ⟨BB, FT⟩ ?_ ?_
      · intro i_ hi_ s a X hf hv hn hS
        match i_, hi_ with
        | 0, _ => exact stepV rfl rfl (execMvB rfl ((hn 4 (by omega) _ rfl _ rfl).trans t6)) ⟨s, ⟨_, rfl, rfl⟩, hS, fun _ _ => rfl⟩
        | 1, _ => exact stepV rfl rfl (execMvB rfl ((hf 8 (by decide)).trans t8)) ⟨s, ⟨_, rfl, rfl⟩, hS, fun _ _ => rfl⟩
        | 2, _ =>
          refine stepV rfl rfl (execBsI (z := ((drD n (gN f) k : Nat) : Int)) rfl (by rw [hdr]; exact (hv 1 (by omega) _ rfl _ rfl))) ⟨(X.heap.size, s.2), ⟨_, rfl, rfl⟩, ⟨(hS.1).trans (((belNew X _)).mono (hS.1).size), (hS.2.on (belNew X _)), heapNew X _⟩, fun i hi => ?_⟩
          match i, hi with
          | 0, _ => rfl
          | 1, _ => rfl
          | n_ + 2, h_ => omega
        | 3, _ =>
          refine stepAppT rfl rfl rfl (hv 0 (by omega) _ rfl _ rfl) (hv 2 (by omega) _ rfl _ rfl) hS.2.1 hS.2.2 (by omega) (hS.1).size fun v' W' t' gr => ⟨(s.1, v'), ⟨_, rfl, rfl⟩, ⟨(hS.1).grown gr (hS.1).size (fun k hk => (hS.2.1.ru.lt k hk).1), t'⟩, fun i hi => ?_⟩
          match i, hi with
          | 0, _ => rfl
          | 1, _ => rfl
          | 2, _ => rfl
          | n_ + 3, h_ => omega
        | 4, _ => exact stepV rfl rfl (execAsgB rfl (hv 3 (by omega) _ rfl _ rfl)) ⟨s, ⟨_, rfl, rfl⟩, hS, fun _ _ => rfl⟩
        | k_ + 5, h_ => exact absurd h_ (by simp)
      rintro ⟨g36, v37⟩ a X9 h1 h2 h3 h4 hS
      clear BB
      clear FT
      replace hS : Below V.heap.size V X9 ∧ (Thr V X9 v16 v19 n (fun j => (drA n (gN f) k j : Int)) (fun j => (posN (drA n (gN f) k) j n : Int)) v37 (k + 1) (fun j => (drD n (gN f) j : Int))) := hS
      obtain ⟨BB, FT2⟩ := hS
      replace t0 := (h3 0 (by decide)).trans t0
      replace t4 := (h3 4 (by decide)).trans t4
      replace t5 := (h3 5 (by decide)).trans t5
      replace t6 : a.eval (.tmp 6) = v37 := h4 4 _ rfl _ rfl
      replace t7 := (h3 7 (by decide)).trans t7
      replace t8 := (h3 8 (by decide)).trans t8
      replace A := (⟨h1, h2.trans A.2⟩ : a.tmps.size = 63 ∧ a.defers = [])
      clear h1 h2 h3 h4
      refine wp_seq ?_
      refine wp_region_detA 63 [(0, 38), (1, 39), (2, 40), (3, 41), (4, 42), (5, 43), (6, 44), (7, 45), (8, 9), (9, 10)] (fun i_ => match i_ with | 0 => v16 | 1 => .int .i64 ((I : Nat) : Int) | 2 => .pointer (some ⟨ga, 0 + I, none⟩) | 3 => .int .i64 ((Y : Nat) : Int) | 4 => v16 | 5 => .int .i64 ((J : Nat) : Int) | 6 => .pointer (some ⟨ga, 0 + J, none⟩) | 7 => .int .i64 ((w : Nat) : Int) | 8 => .int .i64 ((Y : Nat) : Int) | 9 => .int .i64 ((w : Nat) : Int) | _ => undef) (fun _ X => Below V.heap.size V X ∧ (Thr V X v16 v19 n (fun j => (drA n (gN f) k j : Int)) (fun j => (posN (drA n (gN f) k) j n : Int)) v37 (k + 1) (fun j => (drD n (gN f) j : Int)))) (by kernel_rfl) (by kernel_rfl) A.1 (by kernel_rfl) (by decide) (by decide) ⟨BB.drew, (FT2.on (Below.refl _ _).drew)⟩ ?_ ?_
      · intro i_ hi_ l_ a X hl_ hf hdep hl2 hcl hno hT
        match i_, hi_ with
        | 0, _ => exact stepV rfl rfl (execMvB rfl ((hf 4 (by decide)).trans t4)) ⟨⟨_, rfl, rfl⟩, hT⟩
        | 1, _ => exact stepV rfl rfl (execMvB rfl ((hf 7 (by decide)).trans t7)) ⟨⟨_, rfl, rfl⟩, hT⟩
        | 2, _ => exact stepV rfl rfl (execIdxN (k := I) rfl ((hdep _ rfl 0 rfl _ rfl _ rfl).trans ea) (hdep _ rfl 1 rfl _ rfl _ rfl) hI) ⟨⟨_, rfl, rfl⟩, hT⟩
        | 3, _ => exact stepV rfl rfl (execLd3 rfl (hdep _ rfl 2 rfl _ rfl _ rfl) (by rw [(hT.2.atA ea hI).1, eY])) ⟨⟨_, rfl, rfl⟩, hT⟩
        | 4, _ => exact stepV rfl rfl (execMvB rfl ((hf 4 (by decide)).trans t4)) ⟨⟨_, rfl, rfl⟩, hT⟩
        | 5, _ => exact stepV rfl rfl (execMvB rfl ((hf 8 (by decide)).trans t8)) ⟨⟨_, rfl, rfl⟩, hT⟩
        | 6, _ => exact stepV rfl rfl (execIdxN (k := J) rfl ((hdep _ rfl 4 rfl _ rfl _ rfl).trans ea) (hdep _ rfl 5 rfl _ rfl _ rfl) hJn) ⟨⟨_, rfl, rfl⟩, hT⟩
        | 7, _ => exact stepV rfl rfl (execLd3 rfl (hdep _ rfl 6 rfl _ rfl _ rfl) (by rw [(hT.2.atA ea hJn).1, hAJ])) ⟨⟨_, rfl, rfl⟩, hT⟩
        | 8, _ => exact stepV rfl rfl (execAsgB rfl (hdep _ rfl 3 rfl _ rfl _ rfl)) ⟨⟨_, rfl, rfl⟩, hT⟩
        | 9, _ => exact stepV rfl rfl (execAsgB rfl (hdep _ rfl 7 rfl _ rfl _ rfl)) ⟨⟨_, rfl, rfl⟩, hT⟩
        | k_ + 10, h_ => exact absurd h_ (by simp)
      intro l_ a X10 h1 h2 h3 h4 hall hT
      clear hall
      clear BB
      clear FT2
      obtain ⟨BB, FT2⟩ := hT
      replace t0 := (h3 0 (by decide)).trans t0
      replace t4 := (h3 4 (by decide)).trans t4
      replace t5 := (h3 5 (by decide)).trans t5
      replace t6 := (h3 6 (by decide)).trans t6
      replace t7 := (h3 7 (by decide)).trans t7
      replace t8 := (h3 8 (by decide)).trans t8
      have t9 : a.eval (.tmp 9) = .int .i64 ((Y : Nat) : Int) := h4 (8, 9) (by decide)
      have t10 : a.eval (.tmp 10) = .int .i64 ((w : Nat) : Int) := h4 (9, 10) (by decide)
      replace A := (⟨h1, h2.trans A.2⟩ : a.tmps.size = 63 ∧ a.defers = [])
      clear h1 h2 h3 h4
      refine wp_seq ?_
      refine wp_region_sq (σ := Unit) 63 [(0, 46), (1, 47), (2, 48), (3, 49), (4, 50), (5, 51), (6, 52), (8, 53)] (fun j_ s X => match j_ with | 0 => Below V.heap.size V X ∧ (Thr V X v16 v19 n (fun j => (drA n (gN f) k j : Int)) (fun j => (posN (drA n (gN f) k) j n : Int)) v37 (k + 1) (fun j => (drD n (gN f) j : Int))) | 1 => Below V.heap.size V X ∧ (Thr V X v16 v19 n (fun j => (drA n (gN f) k j : Int)) (fun j => (posN (drA n (gN f) k) j n : Int)) v37 (k + 1) (fun j => (drD n (gN f) j : Int))) | 2 => Below V.heap.size V X ∧ (Thr V X v16 v19 n (fun j => (drA n (gN f) k j : Int)) (fun j => (posN (drA n (gN f) k) j n : Int)) v37 (k + 1) (fun j => (drD n (gN f) j : Int))) | 3 => Below V.heap.size V X ∧ (Thr V X v16 v19 n (fun j => (drA n (gN f) k j : Int)) (fun j => (posN (drA n (gN f) k) j n : Int)) v37 (k + 1) (fun j => (drD n (gN f) j : Int))) | 4 => Below V.heap.size V X ∧ (Thr V X v16 v19 n (fun j => (drA n (gN f) k j : Int)) (fun j => (posN (drA n (gN f) k) j n : Int)) v37 (k + 1) (fun j => (drD n (gN f) j : Int))) | 5 => Below V.heap.size V X ∧ (Thr V X v16 v19 n (fun j => (drA n (gN f) k j : Int)) (fun j => (posN (drA n (gN f) k) j n : Int)) v37 (k + 1) (fun j => (drD n (gN f) j : Int))) | 6 => Below V.heap.size V X ∧ (Thr V X v16 v19 n (fun j => (drA n (gN f) k j : Int)) (fun j => (posN (drA n (gN f) k) j n : Int)) v37 (k + 1) (fun j => (drD n (gN f) j : Int))) | 7 => Below V.heap.size V X ∧ (Thr V X v16 v19 n (fun j => (drA n (gN f) k j : Int)) (fun j => (posN (drA n (gN f) k) j n : Int)) v37 (k + 1) (fun j => (drD n (gN f) j : Int))) | 8 => Below V.heap.size V X ∧ (Thr V X v16 v19 n (fun j => if j = I then ((w : Nat) : Int) else (fun j => (drA n (gN f) k j : Int)) j) (fun j => (posN (drA n (gN f) k) j n : Int)) v37 (k + 1) (fun j => (drD n (gN f) j : Int))) | 9 => Below V.heap.size V X ∧ (Thr V X v16 v19 n (fun j => if j = I then ((w : Nat) : Int) else (fun j => (drA n (gN f) k j : Int)) j) (fun j => (posN (drA n (gN f) k) j n : Int)) v37 (k + 1) (fun j => (drD n (gN f) j : Int))) | _ => Below V.heap.size V X ∧ (Thr V X v16 v19 n (fun j => (drA n (gN f) (k + 1) j : Int)) (fun j => (posN (drA n (gN f) k) j n : Int)) v37 (k + 1) (fun j => (drD n (gN f) j : Int)))) (fun s => fun i_ => match i_ with | 0 => v16 | 1 => .int .i64 ((I : Nat) : Int) | 2 => v16 | 3 => .int .i64 ((J : Nat) : Int) | 4 => .int .i64 ((w : Nat) : Int) | 5 => .int .i64 ((Y : Nat) : Int) | 6 => .pointer (some ⟨ga, 0 + I, none⟩) | 7 => undef | 8 => .pointer (some ⟨ga, 0 + J, none⟩) | 9 => undef | _ => undef) () A.1 (by kernel_rfl) (by decide) (by decide) ⟨BB, FT2⟩ ?_ ?_
      · intro i_ hi_ s a X hf hv hn hS
        match i_, hi_ with
        | 0, _ => exact stepV rfl rfl (execMvB rfl ((hf 4 (by decide)).trans t4)) ⟨s, ⟨_, rfl, rfl⟩, hS, fun _ _ => rfl⟩
        | 1, _ => exact stepV rfl rfl (execMvB rfl ((hf 7 (by decide)).trans t7)) ⟨s, ⟨_, rfl, rfl⟩, hS, fun _ _ => rfl⟩
        | 2, _ => exact stepV rfl rfl (execMvB rfl ((hf 4 (by decide)).trans t4)) ⟨s, ⟨_, rfl, rfl⟩, hS, fun _ _ => rfl⟩
        | 3, _ => exact stepV rfl rfl (execMvB rfl ((hf 8 (by decide)).trans t8)) ⟨s, ⟨_, rfl, rfl⟩, hS, fun _ _ => rfl⟩
        | 4, _ => exact stepV rfl rfl (execMvB rfl ((hf 10 (by decide)).trans t10)) ⟨s, ⟨_, rfl, rfl⟩, hS, fun _ _ => rfl⟩
        | 5, _ => exact stepV rfl rfl (execMvB rfl ((hf 9 (by decide)).trans t9)) ⟨s, ⟨_, rfl, rfl⟩, hS, fun _ _ => rfl⟩
        | 6, _ => exact stepV rfl rfl (execIdxN (k := I) rfl ((hv 0 (by omega) _ rfl _ rfl).trans ea) (hv 1 (by omega) _ rfl _ rfl) hI) ⟨s, ⟨_, rfl, rfl⟩, hS, fun _ _ => rfl⟩
        | 7, _ =>
          obtain ⟨hc_, hf_⟩ := hS.2.atA ea hI
          refine stepS rfl rfl (execStI9 rfl (hv 6 (by omega) _ rfl _ rfl) (hv 4 (by omega) _ rfl _ rfl) hc_ hf_) ⟨s, ⟨_, rfl, rfl⟩, ⟨(hS.1).setCell hga _, hS.2.setA ea ((w : Nat) : Int)⟩, fun i hi => ?_⟩
          match i, hi with
          | 0, _ => rfl
          | 1, _ => rfl
          | 2, _ => rfl
          | 3, _ => rfl
          | 4, _ => rfl
          | 5, _ => rfl
          | 6, _ => rfl
          | n_ + 7, h_ => omega
        | 8, _ => exact stepV rfl rfl (execIdxN (k := J) rfl ((hv 2 (by omega) _ rfl _ rfl).trans ea) (hv 3 (by omega) _ rfl _ rfl) hJn) ⟨s, ⟨_, rfl, rfl⟩, hS, fun _ _ => rfl⟩
        | 9, _ =>
          obtain ⟨hc_, hf_⟩ := hS.2.atA ea hJn
          refine stepS rfl rfl (execStI9 rfl (hv 8 (by omega) _ rfl _ rfl) (hv 5 (by omega) _ rfl _ rfl) hc_ hf_) ⟨s, ⟨_, rfl, rfl⟩, ⟨(hS.1).setCell hga _, (hS.2.setA ea ((Y : Nat) : Int)).cgA (fun j _ => dr_a hnext eY hAJ j)⟩, fun i hi => ?_⟩
          match i, hi with
          | 0, _ => rfl
          | 1, _ => rfl
          | 2, _ => rfl
          | 3, _ => rfl
          | 4, _ => rfl
          | 5, _ => rfl
          | 6, _ => rfl
          | 7, _ => rfl
          | 8, _ => rfl
          | n_ + 9, h_ => omega
        | k_ + 10, h_ => exact absurd h_ (by simp)
      rintro _ a X11 h1 h2 h3 h4 hS
      clear BB
      clear FT2
      replace hS : Below V.heap.size V X11 ∧ (Thr V X11 v16 v19 n (fun j => (drA n (gN f) (k + 1) j : Int)) (fun j => (posN (drA n (gN f) k) j n : Int)) v37 (k + 1) (fun j => (drD n (gN f) j : Int))) := hS
      obtain ⟨BB, FT4⟩ := hS
      replace t0 := (h3 0 (by decide)).trans t0
      replace t4 := (h3 4 (by decide)).trans t4
      replace t5 := (h3 5 (by decide)).trans t5
      replace t6 := (h3 6 (by decide)).trans t6
      replace t7 := (h3 7 (by decide)).trans t7
      replace t8 := (h3 8 (by decide)).trans t8
      replace t9 := (h3 9 (by decide)).trans t9
      replace t10 := (h3 10 (by decide)).trans t10
      replace A := (⟨h1, h2.trans A.2⟩ : a.tmps.size = 63 ∧ a.defers = [])
      clear h1 h2 h3 h4
      refine wp_region_sq (σ := Unit) 63 [(0, 54), (1, 55), (2, 56), (3, 57), (4, 58), (5, 59), (6, 60), (8, 61)] (fun j_ s X => match j_ with | 0 => Below V.heap.size V X ∧ (Thr V X v16 v19 n (fun j => (drA n (gN f) (k + 1) j : Int)) (fun j => (posN (drA n (gN f) k) j n : Int)) v37 (k + 1) (fun j => (drD n (gN f) j : Int))) | 1 => Below V.heap.size V X ∧ (Thr V X v16 v19 n (fun j => (drA n (gN f) (k + 1) j : Int)) (fun j => (posN (drA n (gN f) k) j n : Int)) v37 (k + 1) (fun j => (drD n (gN f) j : Int))) | 2 => Below V.heap.size V X ∧ (Thr V X v16 v19 n (fun j => (drA n (gN f) (k + 1) j : Int)) (fun j => (posN (drA n (gN f) k) j n : Int)) v37 (k + 1) (fun j => (drD n (gN f) j : Int))) | 3 => Below V.heap.size V X ∧ (Thr V X v16 v19 n (fun j => (drA n (gN f) (k + 1) j : Int)) (fun j => (posN (drA n (gN f) k) j n : Int)) v37 (k + 1) (fun j => (drD n (gN f) j : Int))) | 4 => Below V.heap.size V X ∧ (Thr V X v16 v19 n (fun j => (drA n (gN f) (k + 1) j : Int)) (fun j => (posN (drA n (gN f) k) j n : Int)) v37 (k + 1) (fun j => (drD n (gN f) j : Int))) | 5 => Below V.heap.size V X ∧ (Thr V X v16 v19 n (fun j => (drA n (gN f) (k + 1) j : Int)) (fun j => (posN (drA n (gN f) k) j n : Int)) v37 (k + 1) (fun j => (drD n (gN f) j : Int))) | 6 => Below V.heap.size V X ∧ (Thr V X v16 v19 n (fun j => (drA n (gN f) (k + 1) j : Int)) (fun j => (posN (drA n (gN f) k) j n : Int)) v37 (k + 1) (fun j => (drD n (gN f) j : Int))) | 7 => Below V.heap.size V X ∧ (Thr V X v16 v19 n (fun j => (drA n (gN f) (k + 1) j : Int)) (fun j => (posN (drA n (gN f) k) j n : Int)) v37 (k + 1) (fun j => (drD n (gN f) j : Int))) | 8 => Below V.heap.size V X ∧ (Thr V X v16 v19 n (fun j => (drA n (gN f) (k + 1) j : Int)) (fun j => if j = Y then ((J : Nat) : Int) else (fun j => (posN (drA n (gN f) k) j n : Int)) j) v37 (k + 1) (fun j => (drD n (gN f) j : Int))) | 9 => Below V.heap.size V X ∧ (Thr V X v16 v19 n (fun j => (drA n (gN f) (k + 1) j : Int)) (fun j => if j = Y then ((J : Nat) : Int) else (fun j => (posN (drA n (gN f) k) j n : Int)) j) v37 (k + 1) (fun j => (drD n (gN f) j : Int))) | _ => Below V.heap.size V X ∧ (Thr V X v16 v19 n (fun j => (drA n (gN f) (k + 1) j : Int)) (fun j => (posN (drA n (gN f) (k + 1)) j n : Int)) v37 (k + 1) (fun j => (drD n (gN f) j : Int)))) (fun s => fun i_ => match i_ with | 0 => v19 | 1 => .int .i64 ((Y : Nat) : Int) | 2 => v19 | 3 => .int .i64 ((w : Nat) : Int) | 4 => .int .i64 ((J : Nat) : Int) | 5 => .int .i64 ((I : Nat) : Int) | 6 => .pointer (some ⟨gt, 0 + Y, none⟩) | 7 => undef | 8 => .pointer (some ⟨gt, 0 + w, none⟩) | 9 => undef | _ => undef) () A.1 (by kernel_rfl) (by decide) (by decide) ⟨BB, FT4⟩ ?_ ?_
      · intro i_ hi_ s a X hf hv hn hS
        match i_, hi_ with
        | 0, _ => exact stepV rfl rfl (execMvB rfl ((hf 5 (by decide)).trans t5)) ⟨s, ⟨_, rfl, rfl⟩, hS, fun _ _ => rfl⟩
        | 1, _ => exact stepV rfl rfl (execMvB rfl ((hf 9 (by decide)).trans t9)) ⟨s, ⟨_, rfl, rfl⟩, hS, fun _ _ => rfl⟩
        | 2, _ => exact stepV rfl rfl (execMvB rfl ((hf 5 (by decide)).trans t5)) ⟨s, ⟨_, rfl, rfl⟩, hS, fun _ _ => rfl⟩
        | 3, _ => exact stepV rfl rfl (execMvB rfl ((hf 10 (by decide)).trans t10)) ⟨s, ⟨_, rfl, rfl⟩, hS, fun _ _ => rfl⟩
        | 4, _ => exact stepV rfl rfl (execMvB rfl ((hf 8 (by decide)).trans t8)) ⟨s, ⟨_, rfl, rfl⟩, hS, fun _ _ => rfl⟩
        | 5, _ => exact stepV rfl rfl (execMvB rfl ((hf 7 (by decide)).trans t7)) ⟨s, ⟨_, rfl, rfl⟩, hS, fun _ _ => rfl⟩
        | 6, _ => exact stepV rfl rfl (execIdxN (k := Y) rfl ((hv 0 (by omega) _ rfl _ rfl).trans et) (hv 1 (by omega) _ rfl _ rfl) hY) ⟨s, ⟨_, rfl, rfl⟩, hS, fun _ _ => rfl⟩
        | 7, _ =>
          obtain ⟨hc_, hf_⟩ := hS.2.atT et hY
          refine stepS rfl rfl (execStI9 rfl (hv 6 (by omega) _ rfl _ rfl) (hv 4 (by omega) _ rfl _ rfl) hc_ hf_) ⟨s, ⟨_, rfl, rfl⟩, ⟨(hS.1).setCell hgt _, hS.2.setT et ((J : Nat) : Int)⟩, fun i hi => ?_⟩
          match i, hi with
          | 0, _ => rfl
          | 1, _ => rfl
          | 2, _ => rfl
          | 3, _ => rfl
          | 4, _ => rfl
          | 5, _ => rfl
          | 6, _ => rfl
          | n_ + 7, h_ => omega
        | 8, _ => exact stepV rfl rfl (execIdxN (k := w) rfl ((hv 2 (by omega) _ rfl _ rfl).trans et) (hv 3 (by omega) _ rfl _ rfl) hw) ⟨s, ⟨_, rfl, rfl⟩, hS, fun _ _ => rfl⟩
        | 9, _ =>
          obtain ⟨hc_, hf_⟩ := hS.2.atT et hw
          refine stepS rfl rfl (execStI9 rfl (hv 8 (by omega) _ rfl _ rfl) (hv 5 (by omega) _ rfl _ rfl) hc_ hf_) ⟨s, ⟨_, rfl, rfl⟩, ⟨(hS.1).setCell hgt _, (hS.2.setT et ((I : Nat) : Int)).cgT (fun j hj => dr_t hPA hI hJn hnext eY hAJ hj)⟩, fun i hi => ?_⟩
          match i, hi with
          | 0, _ => rfl
          | 1, _ => rfl
          | 2, _ => rfl
          | 3, _ => rfl
          | 4, _ => rfl
          | 5, _ => rfl
          | 6, _ => rfl
          | 7, _ => rfl
          | 8, _ => rfl
          | n_ + 9, h_ => omega
        | k_ + 10, h_ => exact absurd h_ (by simp)
      rintro _ a X12 h1 h2 h3 h4 hS
      clear BB
      clear FT4
      replace hS : Below V.heap.size V X12 ∧ (Thr V X12 v16 v19 n (fun j => (drA n (gN f) (k + 1) j : Int)) (fun j => (posN (drA n (gN f) (k + 1)) j n : Int)) v37 (k + 1) (fun j => (drD n (gN f) j : Int))) := hS
      obtain ⟨BB, FT6⟩ := hS
      replace t0 := (h3 0 (by decide)).trans t0
      replace t4 := (h3 4 (by decide)).trans t4
      replace t5 := (h3 5 (by decide)).trans t5
      replace t6 := (h3 6 (by decide)).trans t6
      replace t7 := (h3 7 (by decide)).trans t7
      replace A := (⟨h1, h2.trans A.2⟩ : a.tmps.size = 63 ∧ a.defers = [])
      clear h1 h2 h3 h4
      clear t8 t9 t10
      refine wp_region_sq (σ := Unit) 63 [(0, 25), (1, 26), (2, 7)] (fun j_ s X => match j_ with | 0 => Below V.heap.size V X ∧ (Thr V X v16 v19 n (fun j => (drA n (gN f) (k + 1) j : Int)) (fun j => (posN (drA n (gN f) (k + 1)) j n : Int)) v37 (k + 1) (fun j => (drD n (gN f) j : Int))) | 1 => Below V.heap.size V X ∧ (Thr V X v16 v19 n (fun j => (drA n (gN f) (k + 1) j : Int)) (fun j => (posN (drA n (gN f) (k + 1)) j n : Int)) v37 (k + 1) (fun j => (drD n (gN f) j : Int))) | 2 => Below V.heap.size V X ∧ (Thr V X v16 v19 n (fun j => (drA n (gN f) (k + 1) j : Int)) (fun j => (posN (drA n (gN f) (k + 1)) j n : Int)) v37 (k + 1) (fun j => (drD n (gN f) j : Int))) | _ => Below V.heap.size V X ∧ (Thr V X v16 v19 n (fun j => (drA n (gN f) (k + 1) j : Int)) (fun j => (posN (drA n (gN f) (k + 1)) j n : Int)) v37 (k + 1) (fun j => (drD n (gN f) j : Int)))) (fun s => fun i_ => match i_ with | 0 => .int .i64 ((I : Nat) : Int) | 1 => .int .i64 ((n : Int) - 1 - ((k + 1 : Nat) : Int)) | 2 => .int .i64 ((n : Int) - 1 - ((k + 1 : Nat) : Int)) | _ => undef) () A.1 (by kernel_rfl) (by decide) (by decide) ⟨BB, FT6⟩ ?_ ?_
      · intro i_ hi_ s a X hf hv hn hS
        match i_, hi_ with
        | 0, _ => exact stepV rfl rfl (execMvB rfl ((hn 2 (by omega) _ rfl _ rfl).trans t7)) ⟨s, ⟨_, rfl, rfl⟩, hS, fun _ _ => rfl⟩
        | 1, _ => exact stepV rfl rfl (execSubIg (z := (n : Int) - 1 - ((k + 1 : Nat) : Int)) rfl (hv 0 (by omega) _ rfl _ rfl) rfl (by omega) (by omega) (by omega)) ⟨s, ⟨_, rfl, rfl⟩, hS, fun _ _ => rfl⟩
        | 2, _ => exact stepV rfl rfl (execAsgB rfl (hv 1 (by omega) _ rfl _ rfl)) ⟨s, ⟨_, rfl, rfl⟩, hS, fun _ _ => rfl⟩
        | k_ + 3, h_ => exact absurd h_ (by simp)
      rintro _ a X7 h1 h2 h3 h4 hS
      clear BB
      clear FT6
      replace hS : Below V.heap.size V X7 ∧ (Thr V X7 v16 v19 n (fun j => (drA n (gN f) (k + 1) j : Int)) (fun j => (posN (drA n (gN f) (k + 1)) j n : Int)) v37 (k + 1) (fun j => (drD n (gN f) j : Int))) := hS
      obtain ⟨BB, FT6⟩ := hS
      replace t0 := (h3 0 (by decide)).trans t0
      replace t4 := (h3 4 (by decide)).trans t4
      replace t5 := (h3 5 (by decide)).trans t5
      replace t6 := (h3 6 (by decide)).trans t6
      replace t7 : a.eval (.tmp 7) = .int .i64 ((n : Int) - 1 - ((k + 1 : Nat) : Int)) := h4 2 _ rfl _ rfl
      replace A := (⟨h1, h2.trans A.2⟩ : a.tmps.size = 63 ∧ a.defers = [])
      clear h1 h2 h3 h4
      refine ⟨⟨k + 1, _, by omega, A, t0, t4, t5, t6, t7, BB, FT6⟩, ?_⟩
      show (intOf (a.eval (.tmp 7))).toNat < (intOf (Act.eval _ (.tmp 7))).toNat
      rw [t7, es]
      show ((n : Int) - 1 - ((k + 1 : Nat) : Int)).toNat < ((n : Int) - 1 - (k : Int)).toNat
      omega
    · rw [decide_eq_false hlt] at t24
      refine wp_cond_false t24 ?_
      refine wp_exit ?_
      first | refine exit_in ?_ | refine exit_then (exit_in ?_) | refine exit_then (exit_then (exit_in ?_))
      clear t24 es t7
      have hin : k = n - 1 := by omega
      have FO := FT.ru
      clear FT
      rw [hin] at FO
      refine wp_seq ?_
      refine wp_region_sq (σ := Unit) 63 [(0, 62), (1, 2), (2, 3)] (fun j_ s X => match j_ with | 0 => Below V.heap.size V X ∧ (X.ownsRow V.heap.size 3 1 u (n - 1) (intsL (n - 1) (fun j => (drD n (gN f) j : Int)))) | 1 => Below V.heap.size V X ∧ (X.ownsRow V.heap.size 3 1 u (n - 1) (intsL (n - 1) (fun j => (drD n (gN f) j : Int)))) | 2 => Below V.heap.size V X ∧ (X.ownsRow V.heap.size 3 1 u (n - 1) (intsL (n - 1) (fun j => (drD n (gN f) j : Int)))) | _ => Below V.heap.size V X ∧ (X.ownsRow V.heap.size 3 1 u (n - 1) (intsL (n - 1) (fun j => (drD n (gN f) j : Int))))) (fun s => fun i_ => match i_ with | 0 => u | 1 => u | 2 => .int .i64 ((0 : Nat) : Int) | _ => undef) () A.1 (by kernel_rfl) (by decide) (by decide) ⟨BB, FO⟩ ?_ ?_
      · intro i_ hi_ s a X hf hv hn hS
        match i_, hi_ with
        | 0, _ => exact stepV rfl rfl (execMvB rfl ((hf 6 (by decide)).trans t6)) ⟨s, ⟨_, rfl, rfl⟩, hS, fun _ _ => rfl⟩
        | 1, _ => exact stepV rfl rfl (execAsgB rfl (hv 0 (by omega) _ rfl _ rfl)) ⟨s, ⟨_, rfl, rfl⟩, hS, fun _ _ => rfl⟩
        | 2, _ => exact stepV rfl rfl (execAsgB rfl rfl) ⟨s, ⟨_, rfl, rfl⟩, hS, fun _ _ => rfl⟩
        | k_ + 3, h_ => exact absurd h_ (by simp)
      rintro _ a X13 h1 h2 h3 h4 hS
      clear BB
      clear FO
      replace hS : Below V.heap.size V X13 ∧ (X13.ownsRow V.heap.size 3 1 u (n - 1) (intsL (n - 1) (fun j => (drD n (gN f) j : Int)))) := hS
      obtain ⟨BB, FO⟩ := hS
      have t2 : a.eval (.tmp 2) = u := h4 1 _ rfl _ rfl
      have t3 : a.eval (.tmp 3) = .int .i64 ((0 : Nat) : Int) := h4 2 _ rfl _ rfl
      replace A := (⟨h1, h2.trans A.2⟩ : a.tmps.size = 63 ∧ a.defers = [])
      clear h1 h2 h3 h4
      clear t0 t4 t5 t6
      have hE : pE f n = 0 := pE_ok hok
      rw [hE, zl_ok]
      refine wp_ret ?_
      refine bodyPost_ret (results_tmp2 rfl _ _ _) A.2 ⟨_, ?_, FO, BB⟩
      show Ending.returned (.tuple #[a.eval (.tmp 2), a.eval (.tmp 3)]) = _
      rw [t2, t3]
  · refine wp_region_sq (σ := Unit) 63 [(0, 11), (1, 12), (2, 13)] (fun j_ s X => match j_ with | 0 => Below V.heap.size V X | 1 => Below V.heap.size V X | 2 => Below V.heap.size V X | _ => Below V.heap.size V X) (fun s => fun i_ => match i_ with | 0 => .slice ia n ic | 1 => .int .i64 ((pE f n : Nat) : Int) | 2 => .bool true | _ => undef) () A.1 (by kernel_rfl) (by decide) (by decide) (BB) ?_ ?_
    · intro i_ hi_ s a X hf hv hn hS
      match i_, hi_ with
      | 0, _ => exact stepV rfl rfl (execMvB rfl ((hf 0 (by decide)).trans t0)) ⟨s, ⟨_, rfl, rfl⟩, hS, fun _ _ => rfl⟩
      | 1, _ => exact stepC rfl rfl (execCall1 Try.func33 (by kernel_rfl) (by kernel_rfl) rfl (hv 0 (by omega) _ rfl _ rfl)) (rcheck f n _ X (FI.on hS) hn17) fun e w' hh => ⟨_, hh.1, s, ⟨_, rfl, rfl⟩, (hS).trans ((hh.2).mono (hS).size), fun _ _ => rfl⟩
      | 2, _ => exact stepV rfl rfl (execDec (execNeN (p := pE f n) (q := 0) rfl (hv 1 (by omega) _ rfl _ rfl) rfl) (decide_eq_true (by have := pE_no hok; omega))) ⟨s, ⟨_, rfl, rfl⟩, hS, fun _ _ => rfl⟩
      | k_ + 3, h_ => exact absurd h_ (by simp)
    rintro _ a X1 h1 h2 h3 h4 hS
    clear BB
    replace hS : Below V.heap.size V X1 := hS
    have BB := hS
    clear hS
    replace t0 := (h3 0 (by decide)).trans t0
    have t13 : a.eval (.tmp 13) = .bool true := h4 2 _ rfl _ rfl
    replace A := (⟨h1, h2.trans A.2⟩ : a.tmps.size = 63 ∧ a.defers = [])
    clear h1 h2 h3 h4
    refine wp_cond_true t13 ?_
    refine wp_seq ?_
    refine wp_region_sq (σ := Unit) 63 [(0, 2), (1, 3)] (fun j_ s X => match j_ with | 0 => Below V.heap.size V X | 1 => Below V.heap.size V X | _ => Below V.heap.size V X) (fun s => fun i_ => match i_ with | 0 => .slice none 0 0 | 1 => .int .i64 ((110 : Nat) : Int) | _ => undef) () A.1 (by kernel_rfl) (by decide) (by decide) (BB) ?_ ?_
    · intro i_ hi_ s a X hf hv hn hS
      match i_, hi_ with
      | 0, _ => exact stepV rfl rfl (execAsgB rfl rfl) ⟨s, ⟨_, rfl, rfl⟩, hS, fun _ _ => rfl⟩
      | 1, _ => exact stepV rfl rfl (execAsgB rfl rfl) ⟨s, ⟨_, rfl, rfl⟩, hS, fun _ _ => rfl⟩
      | k_ + 2, h_ => exact absurd h_ (by simp)
    rintro _ a X2 h1 h2 h3 h4 hS
    clear BB
    replace hS : Below V.heap.size V X2 := hS
    have BB := hS
    clear hS
    have t2 : a.eval (.tmp 2) = .slice none 0 0 := h4 0 _ rfl _ rfl
    have t3 : a.eval (.tmp 3) = .int .i64 ((110 : Nat) : Int) := h4 1 _ rfl _ rfl
    replace A := (⟨h1, h2.trans A.2⟩ : a.tmps.size = 63 ∧ a.defers = [])
    clear h1 h2 h3 h4
    clear t0
    have hE : pE f n = 110 := pE_no hok
    rw [hE, zl_no (by decide)]
    refine wp_ret ?_
    repeat (first | refine ret_in ?_ | refine ret_then ?_)
    refine bodyPost_ret (results_tmp2 rfl _ _ _) A.2 ⟨_, ?_, World.ownsRow_nil _ _ _ _, BB⟩
    show Ending.returned (.tuple #[a.eval (.tmp 2), a.eval (.tmp 3)]) = _
    rw [t2, t3]
end Go.Proofs.Ythiakjmjpchckaa.Prm
