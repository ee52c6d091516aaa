import Derived.Test.YtcffmmeafnapiaaDoorB8b
namespace Go.Proofs.YtcffmmeafnapiaaDoor.Rou
open Go.RowKit Gf8 Aes By8 Cel Oni
/- RouteKeeps: the nonces and the payload are copied. Written by tools/mkB8c.py. -/

/-- The cells of n nonces. -/
def nL (q : Nat → Nat → Nat) : Nat → List Value
  | 0 => []
  | n + 1 => nL q n ++ bytesL 16 (q n)
theorem nL_len (q : Nat → Nat → Nat) : ∀ n, (nL q n).length = n * 16
  | 0 => rfl
  | n + 1 => by simp only [nL, List.length_append, nL_len q n, bytesL_len]; omega
theorem nL_get (q : Nat → Nat → Nat) : ∀ (n k j : Nat), k < n → j < 16 → (nL q n)[k * 16 + j]? = some (.int .u8 (q k j))
  | 0, k, j, hk, _ => by omega
  | n + 1, k, j, hk, hj => by
    simp only [nL]
    by_cases h : k < n
    · rw [List.getElem?_append_left (by rw [nL_len]; omega)]
      exact nL_get q n k j h hj
    · obtain rfl : k = n := by omega
      rw [List.getElem?_append_right (by rw [nL_len]; omega), nL_len, Nat.add_sub_cancel_left]
      exact bytesL_at 16 _ hj
theorem nL_one (q : Nat → Nat → Nat) : ∀ n, ∀ u ∈ nL q n, u.oneCell' = true
  | 0, u, hu => by cases hu
  | n + 1, u, hu => by
    simp only [nL, List.mem_append] at hu
    rcases hu with h | h
    · exact nL_one q n u h
    · exact bytesL_one _ _ u h
theorem own_noneA (w : World) : (w.alloc (.cells #[] 40)).ownsRow w.heap.size 40 16 (.slice (some ⟨w.heap.size, 0, none⟩) 0 0) 0 [] :=
  ⟨rfl, Or.inr ⟨w.heap.size, 0, #[], rfl, Nat.le_refl _, heapNew w _, Nat.le_refl _, by unfold maxLen; omega, rfl, rfl⟩⟩
theorem own_nons {W : World} {B n : Nat} {v : Value} {q : Nat → Nat → Nat} (h : W.ownsRow B 40 16 v n (nL q n)) (hq : ∀ i, i < n → By (q i)) : Nons W v n q := by
  rcases h.2 with ⟨rfl, rfl⟩ | ⟨g, cap, cur, rfl, _, hg, h1, h2, h3, h4⟩
  · exact ⟨⟨none, 0, rfl, Nat.le_refl _, by omega, fun h => by omega⟩, fun i h => by omega⟩
  · refine ⟨⟨_, cap, rfl, h1, by unfold maxLen at h2; omega, fun _ => ⟨g, 0, rfl, (Array.getElem?_eq_some_iff.1 hg).1, fun i hi j hj => ?_⟩⟩, hq⟩
    rw [cell_of_row _ _ _ _ _ _ hg, Nat.zero_add, ← Array.getElem?_toList]
    have := nL_get q n i j hi hj
    rw [← h4, List.getElem?_take, if_pos (by omega)] at this
    exact this
theorem stepAppA {ops : Array Oper} {Q : Exit → Act → World → Prop} {K : Act → World → Prop} {j : Nat} {o : Oper} {a : Act} {W : World} {s x : Operand} {B m : Nat} {v u : Value} {q : Nat → Nat → Nat} (hos : ops[j]? = some o) (hgd : Region.wanted o (yielded ops a.tmps) = true)
    (ho : o.op = .call { callee := .builtin .append, args := #[s, x], argTypes := #[31, 31] }) (hs : a.eval s = v) (hx : a.eval x = u) (hown : W.ownsRow B 40 16 v 0 []) (hu : Nons W u m q) (hnil : ∀ l c, u = .slice none l c → c = 0) (hbig : m * 16 ≤ 140737488351232) (hB : B ≤ W.heap.size)
    (hK : ∀ v' W', W'.ownsRow B 40 16 v' m (nL q m) → W.grownBy W' v.ownBlock → K (a.put o.dst v') W') : wpOp Tryd.prog ops Q j K a W := by
  obtain ⟨i, i1, i2, i3, i4⟩ := infoA8
  obtain ⟨⟨ao, cap, rfl, _, _, hc⟩, _⟩ := hu
  cases ao with
  | none =>
    have hm : m = 0 := by
      rcases Nat.eq_zero_or_pos m with e | e
      · exact e
      · obtain ⟨_, _, e', _⟩ := hc e
        cases e'
    subst hm
    have hcap := hnil _ _ rfl
    subst hcap
    have hr := run_append_owned_none (P := Tryd.prog) W B 31 o.type 40 i 16 Tryd.underlying31 i1 v 0 [] hown
    refine stepV hos hgd (v := v) (w' := W) ?_ (hK v W hown ⟨rfl, rfl, rfl, Nat.le_refl _, fun _ _ _ => rfl⟩)
    unfold execOp
    simp only [ho, resolve, invoke, builtin, Sem.run_bind, Sem.run_pure, Result.andThen_ok, List.map_toArray, List.map_cons, List.map_nil, hs, hx, hr]
  | some ad =>
    obtain ⟨v', W', run, q1, q2⟩ := execAppO (m := m) (c := cap) (ad := ad) (xs := []) (size := 16) (bytes := 16) (z := .agg (bA 16 fun _ => 0)) (news := nL q m) ho Tryd.underlying31 i1 i2 i3 i4 (by show (bA 16 fun _ => 0).size = 16; rw [bA_size]) (by decide) hs hown hx (nL_len q m) (fun k z hz => by
      have hk : k < m * 16 := by have := (List.getElem?_eq_some_iff.1 hz).1; rw [nL_len] at this; exact this
      obtain ⟨b, off, e, _, e3⟩ := hc (by omega)
      obtain rfl : ad = ⟨b, off, none⟩ := Option.some.inj e
      have h1 := e3 (k / 16) (by omega) (k % 16) (by omega)
      have h2 := nL_get q m (k / 16) (k % 16) (by omega) (by omega)
      rw [show k / 16 * 16 + k % 16 = k by omega] at h2
      rw [show off + k / 16 * 16 + k % 16 = off + k by omega] at h1
      rw [Go.WideShapes.add_plain, h1, ← h2]
      exact hz) (nL_one q m) (by unfold maxLen; omega) (by omega) hB
    rw [Nat.zero_add, List.nil_append] at q1
    exact stepV hos hgd run (hK v' W' q1 q2)
theorem two_slice8 {W : World} {g : Nat} {f : Nat → Nat} (h : W.heap[g]? = some (.cells #[.int .u8 165, .int .u8 165] 5)) (hf : ∀ j, j < 2 → f j = 165) : SliceN W (.slice (some ⟨g, 0, none⟩) 2 2) 2 f :=
  lit_slice h (fun j hj => by
    rw [hf j hj]
    match j, hj with
    | 0, _ => rfl
    | 1, _ => rfl) (fun j hj => by rw [hf j hj]; omega) (by omega)
/-- All that is handed to the program. -/
structure RW (c : RX) (V1 W : World) (x : Nat → Value) (u5 u6 nv : Value) (pg pk : Nat) : Prop where
  B : RB c V1 W c.h x u5 u6
  non : Nons W nv c.hn c.q
  pay : SliceN W (.slice (some ⟨pg, 0, none⟩) (c.n + 2) pk) (c.n + 2) (rmF c.n c.p)
  pk_ : c.n + 2 ≤ pk
set_option maxRecDepth 100000 in
set_option maxHeartbeats 4000000 in
theorem keeps18 (c : RX) (V V1 : World) (F : RF c V V1) (h : ∀ (a : Act) (W : World) (x : Nat → Value) (u5 u6 nv : Value) (pg pk : Nat), RA c a → RW c V1 W x u5 u6 nv pg pk → a.eval (.tmp 5) = u5 → a.eval (.tmp 6) = u6 → a.eval (.tmp 10) = nv → a.eval (.tmp 11) = .slice (some ⟨pg, 0, none⟩) (c.n + 2) pk → (fromR 20 (Tryd.f7.body.getD .skip)).wp Tryd.prog (bodyPost Tryd.prog Tryd.f7 fun e w' => e = .returned (.bool true) ∧ Below V.heap.size V w') a W) (a : Act) (W : World) (x : Nat → Value) (u5 u6 : Value) (A : RA c a) (B : RB c V1 W c.h x u5 u6) (t5 : a.eval (.tmp 5) = u5) (t6 : a.eval (.tmp 6) = u6) : (fromR 18 (Tryd.f7.body.getD .skip)).wp Tryd.prog (bodyPost Tryd.prog Tryd.f7 fun e w' => e = .returned (.bool true) ∧ Below V.heap.size V w') a W := by
  refine wp_seq ?_
  refine wp_region_sq (σ := Nat × Value) 375 [(0, 96), (1, 97), (2, 98), (3, 99), (4, 10)] (fun j_ s X => Below W.heap.size W X ∧ (match j_ with | 0 => True | 1 => X.ownsRow W.heap.size 40 16 (.slice (some ⟨s.1, 0, none⟩) 0 0) 0 [] | 2 => X.ownsRow W.heap.size 40 16 (.slice (some ⟨s.1, 0, none⟩) 0 0) 0 [] | 3 => X.ownsRow W.heap.size 40 16 (.slice (some ⟨s.1, 0, none⟩) 0 0) 0 [] | 4 => X.ownsRow W.heap.size 40 16 s.2 c.hn (nL c.q c.hn) | _ => X.ownsRow W.heap.size 40 16 s.2 c.hn (nL c.q c.hn))) (fun s => fun i_ => match i_ with | 0 => .slice (some ⟨s.1, 0, none⟩) 0 0 | 1 => .pointer (some ⟨c.J, 1, none⟩) | 2 => c.nv | 3 => s.2 | 4 => s.2 | _ => undef) (0, undef) A.sz (by kernel_rfl) (by decide) (by decide) ⟨Below.refl _ _, trivial⟩ ?_ ?_
  · intro i_ hi_ s a X hf hv hn hS
    match i_, hi_ with
    | 0, _ =>
      exact stepV rfl rfl (execBs0A rfl) ⟨(X.heap.size, s.2), ⟨_, rfl, rfl⟩, ⟨hS.1.trans ((belNew X _).mono hS.1.size), ownW_base (own_noneA X) hS.1.size⟩, fun i hi => by omega⟩
    | 1, _ => exact stepV rfl rfl (execFC (k := 1) (f := 1) (by simp) rfl ((hf 2 (by decide)).trans A.t2)) ⟨s, ⟨_, rfl, rfl⟩, hS, fun _ _ => rfl⟩
    | 2, _ => exact stepV rfl rfl (execLdLA rfl (hv 1 (by omega) _ rfl _ rfl) (hC_at (F.jobW (B.on hS.1).bel)).2.1) ⟨s, ⟨_, rfl, rfl⟩, hS, fun _ _ => rfl⟩
    | 3, _ =>
      refine stepAppA rfl rfl rfl (hv 0 (by omega) _ rfl _ rfl) (hv 2 (by omega) _ rfl _ rfl) hS.2 (F.nons.on (F.belW (B.on hS.1).bel)) F.nn F.sz.2.2 hS.1.size fun v' W' own' gr => ⟨(s.1, v'), ⟨_, rfl, rfl⟩, ⟨hS.1.grown gr hS.1.size (fun k hk => (hS.2.lt k hk).1), own'⟩, fun i hi => ?_⟩
      match i, hi with
      | 0, _ => rfl
      | 1, _ => rfl
      | 2, _ => rfl
      | n_ + 3, h_ => omega
    | 4, _ => exact stepV rfl rfl (execAsgB rfl (hv 3 (by omega) _ rfl _ rfl)) ⟨s, ⟨_, rfl, rfl⟩, hS, fun _ _ => rfl⟩
    | k_ + 5, h_ => exact absurd h_ (by simp)
  intro s a X h1 h2 h3 h4 hS
  have hS : Below W.heap.size W X ∧ (X.ownsRow W.heap.size 40 16 s.2 c.hn (nL c.q c.hn)) := hS
  have t5 := (h3 5 (by decide)).trans t5
  have t6 := (h3 6 (by decide)).trans t6
  have t10 : a.eval (.tmp 10) = s.2 := h4 4 _ rfl _ rfl
  have A := A.keep h1 h2 h3 (by decide)
  clear h1 h2 h3 h4
  obtain ⟨g18, nv⟩ := s
  have t10 : a.eval (.tmp 10) = nv := t10
  obtain ⟨belX, ownX⟩ := hS
  have B := B.on belX
  have NN := own_nons ownX F.nons.by_
  clear belX ownX
  obtain ⟨W, hW⟩ : ∃ W, W = X := ⟨_, rfl⟩
  rw [← hW] at B NN ⊢
  clear hW
  refine wp_seq ?_
  refine wp_region_sq (σ := Nat × Value × Nat × Value) 375 [(0, 100), (1, 101), (2, 102), (3, 103), (4, 104), (5, 105), (6, 11)] (fun j_ s X => Below W.heap.size W X ∧ (match j_ with | 0 => True | 1 => X.ownsRow W.heap.size 5 1 (.slice (some ⟨s.1, 0, none⟩) 0 0) 0 (bytesL 0 (rmF c.n c.p)) | 2 => X.ownsRow W.heap.size 5 1 (.slice (some ⟨s.1, 0, none⟩) 0 0) 0 (bytesL 0 (rmF c.n c.p)) | 3 => X.ownsRow W.heap.size 5 1 (.slice (some ⟨s.1, 0, none⟩) 0 0) 0 (bytesL 0 (rmF c.n c.p)) | 4 => X.ownsRow W.heap.size 5 1 s.2.1 c.n (bytesL c.n (rmF c.n c.p)) | 5 => X.ownsRow W.heap.size 5 1 s.2.1 c.n (bytesL c.n (rmF c.n c.p)) ∧ X.heap[s.2.2.1]? = some (.cells #[.int .u8 165, .int .u8 165] 5) | 6 => X.ownsRow W.heap.size 5 1 s.2.2.2 (c.n + 2) (bytesL (c.n + 2) (rmF c.n c.p)) | _ => X.ownsRow W.heap.size 5 1 s.2.2.2 (c.n + 2) (bytesL (c.n + 2) (rmF c.n c.p)))) (fun s => fun i_ => match i_ with | 0 => .slice (some ⟨s.1, 0, none⟩) 0 0 | 1 => .pointer (some ⟨c.J, 2, none⟩) | 2 => c.pv | 3 => s.2.1 | 4 => .slice (some ⟨s.2.2.1, 0, none⟩) 2 2 | 5 => s.2.2.2 | 6 => s.2.2.2 | _ => undef) (0, undef, 0, undef) A.sz (by kernel_rfl) (by decide) (by decide) ⟨Below.refl _ _, trivial⟩ ?_ ?_
  · intro i_ hi_ s a X hf hv hn hS
    match i_, hi_ with
    | 0, _ =>
      exact stepV rfl rfl (execBs0 rfl) ⟨(X.heap.size, s.2), ⟨_, rfl, rfl⟩, ⟨hS.1.trans ((belNew X _).mono hS.1.size), own_base (own_none X (rmF c.n c.p)) hS.1.size⟩, fun i hi => by omega⟩
    | 1, _ => exact stepV rfl rfl (execFC (k := 2) (f := 2) (by simp) rfl ((hf 2 (by decide)).trans A.t2)) ⟨s, ⟨_, rfl, rfl⟩, hS, fun _ _ => rfl⟩
    | 2, _ => exact stepV rfl rfl (execLdL rfl (hv 1 (by omega) _ rfl _ rfl) (hC_at (F.jobW (B.on hS.1).bel)).2.2) ⟨s, ⟨_, rfl, rfl⟩, hS, fun _ _ => rfl⟩
    | 3, _ =>
      refine stepAppN (p := (rmF c.n c.p)) rfl rfl rfl (hv 0 (by omega) _ rfl _ rfl) (hv 2 (by omega) _ rfl _ rfl) hS.2 (sliceN_cg (F.pay.sl.on (F.belW (B.on hS.1).bel)) fun j hj => by rw [Nat.zero_add]; exact (if_pos hj).symm) F.pay.nil (by have := F.sz; omega) hS.1.size fun v' W' own' gr => ⟨(s.1, v', s.2.2), ⟨_, rfl, rfl⟩, ⟨hS.1.grown gr hS.1.size (fun k hk => (hS.2.lt k hk).1), by rw [Nat.zero_add] at own'; exact own'⟩, fun i hi => ?_⟩
      match i, hi with
      | 0, _ => rfl
      | 1, _ => rfl
      | 2, _ => rfl
      | n_ + 3, h_ => omega
    | 4, _ =>
      refine stepV rfl rfl (execBsU2 rfl) ⟨(s.1, s.2.1, X.heap.size, s.2.2.2), ⟨_, rfl, rfl⟩, ⟨hS.1.trans ((belNew X _).mono hS.1.size), ownsRow_below hS.2 (belNew X _), heapNew X _⟩, fun i hi => ?_⟩
      match i, hi with
      | 0, _ => rfl
      | 1, _ => rfl
      | 2, _ => rfl
      | 3, _ => rfl
      | n_ + 4, h_ => omega
    | 5, _ =>
      refine stepAppN (m := 2) (p := (rmF c.n c.p)) rfl rfl rfl (hv 3 (by omega) _ rfl _ rfl) (hv 4 (by omega) _ rfl _ rfl) hS.2.1 (two_slice8 hS.2.2 (fun j hj => by show rmF c.n c.p (c.n + j) = 165; unfold rmF; rw [if_neg (by omega)])) (fun l c e => by cases e) (by have := F.sz; omega) hS.1.size fun v' W' own' gr => ⟨(s.1, s.2.1, s.2.2.1, v'), ⟨_, rfl, rfl⟩, ⟨hS.1.grown gr hS.1.size (fun k hk => (hS.2.1.lt k hk).1), own'⟩, fun i hi => ?_⟩
      match i, hi with
      | 0, _ => rfl
      | 1, _ => rfl
      | 2, _ => rfl
      | 3, _ => rfl
      | 4, _ => rfl
      | n_ + 5, h_ => omega
    | 6, _ => exact stepV rfl rfl (execAsgB rfl (hv 5 (by omega) _ rfl _ rfl)) ⟨s, ⟨_, rfl, rfl⟩, hS, fun _ _ => rfl⟩
    | k_ + 7, h_ => exact absurd h_ (by simp)
  intro s a X h1 h2 h3 h4 hS
  have hS : Below W.heap.size W X ∧ (X.ownsRow W.heap.size 5 1 s.2.2.2 (c.n + 2) (bytesL (c.n + 2) (rmF c.n c.p))) := hS
  have t5 := (h3 5 (by decide)).trans t5
  have t6 := (h3 6 (by decide)).trans t6
  have t10 := (h3 10 (by decide)).trans t10
  have t11 : a.eval (.tmp 11) = s.2.2.2 := h4 6 _ rfl _ rfl
  have A := A.keep h1 h2 h3 (by decide)
  clear h1 h2 h3 h4
  obtain ⟨g19, v19, g20, pv⟩ := s
  have t11 : a.eval (.tmp 11) = pv := t11
  obtain ⟨belX, ownX⟩ := hS
  obtain ⟨pg, pk, e, _, hpk, _⟩ := own_cells ownX (by omega)
  have PP := own_slice ownX (fun j hj => by
    unfold rmF
    by_cases q : j < c.n
    · rw [if_pos q]; exact F.pay.sl.bytes j q
    · rw [if_neg q]; omega)
  have e : pv = .slice (some ⟨pg, 0, none⟩) (c.n + 2) pk := e
  rw [e] at t11
  have PP : SliceN X pv (c.n + 2) (rmF c.n c.p) := PP
  rw [e] at PP
  exact h a X x u5 u6 nv pg pk A ⟨B.on belX, NN.on belX, PP, hpk⟩ t5 t6 t10 t11
end Go.Proofs.YtcffmmeafnapiaaDoor.Rou
