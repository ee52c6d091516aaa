import Derived.Test.YtcffmmeafnapiaaDoorB8a
namespace Go.Proofs.YtcffmmeafnapiaaDoor.Rou
open Go.RowKit Gf8 Aes By8 Cel Oni
/- RouteKeeps: the rooms are laid. Written by tools/mkB8b.py. -/

theorem sl_h8 (g len cap h : Nat) (hh : h ≤ cap) (W : World) : (Instr.sliceAt 22 (.slice (some ⟨g, 0, none⟩) len cap) none (some (.int .i64 (h : Int))) none).run Tryd.prog W = .ok (.slice (some ⟨g, 0, none⟩) h cap) W := by
  have e := By8.slice_h (some ⟨g, 0, none⟩) len cap h hh W
  rw [sliced_0] at e
  exact e
theorem stepAppN {ops : Array Oper} {Q : Exit → Act → World → Prop} {K : Act → World → Prop} {j : Nat} {o : Oper} {a : Act} {W : World} {s x : Operand} {B n m : Nat} {v u : Value} {p : Nat → Nat} (hos : ops[j]? = some o) (hg : Region.wanted o (yielded ops a.tmps) = true)
    (ho : o.op = .call { callee := .builtin .append, args := #[s, x], argTypes := #[22, 22] }) (hs : a.eval s = v) (hx : a.eval x = u) (hown : W.ownsRow B 5 1 v n (bytesL n p)) (hu : SliceN W u m (fun j => p (n + j))) (hnil : ∀ l c, u = .slice none l c → c = 0) (hbig : n + m ≤ 140737488355328) (hB : B ≤ W.heap.size)
    (hK : ∀ v' W', W'.ownsRow B 5 1 v' (n + m) (bytesL (n + m) p) → W.grownBy W' v.ownBlock → K (a.put o.dst v') W') : wpOp Tryd.prog ops Q j K a W := by
  obtain ⟨v', W', run, q1, q2⟩ := execAppN ho hs hx hown hu hnil hbig hB
  exact stepV hos hg run (hK v' W' q1 q2)
theorem stepAppLs {ops : Array Oper} {Q : Exit → Act → World → Prop} {K : Act → World → Prop} {j : Nat} {o : Oper} {a : Act} {W : World} {s x : Operand} {B n m g : Nat} {v : Value} {xs : List Value} {ls : Array Value} (hos : ops[j]? = some o) (hgd : Region.wanted o (yielded ops a.tmps) = true)
    (ho : o.op = .call { callee := .builtin .append, args := #[s, x], argTypes := #[30, 30] }) (hs : a.eval s = v) (hx : a.eval x = .slice (some ⟨g, 0, none⟩) m m) (hown : W.ownsRow B 22 1 v n xs) (hg : W.heap[g]? = some (.cells ls 22)) (hl : ls.size = m) (h1 : ∀ u ∈ ls.toList, u.oneCell' = true) (hn : n + m ≤ 1000000) (hB : B ≤ W.heap.size)
    (hK : ∀ v' W', W'.ownsRow B 22 1 v' (n + m) (xs ++ ls.toList) → W.grownBy W' v.ownBlock → K (a.put o.dst v') W') : wpOp Tryd.prog ops Q j K a W := by
  obtain ⟨v', W', run, q1, q2⟩ := execAppLs ho hs hx hown hg hl h1 hn hB
  exact stepV hos hgd run (hK v' W' q1 q2)
theorem one_slice {W : World} {g z : Nat} {f : Nat → Nat} (h : W.heap[g]? = some (.cells #[.int .u8 (z : Int)] 5)) (hf : f 0 = z) (hz : z < 256) : SliceN W (.slice (some ⟨g, 0, none⟩) 1 1) 1 f :=
  lit_slice h (fun j hj => by
    obtain rfl : j = 0 := by omega
    rw [hf]; rfl) (fun j hj => by
    obtain rfl : j = 0 := by omega
    rw [hf]; exact hz) (by omega)
/-- The rooms, one more of them than keys. -/
structure RM (c : RX) (V1 W : World) (i : Nat) (x : Nat → Value) (r u5 u6 : Value) : Prop where
  rows : ∀ t, t < i → W.ownsRow V1.heap.size 5 1 (x t) (c.lk t + 40) (bytesL (c.lk t + 40) (rmF (c.lk t) (c.key t)))
  row : W.ownsRow V1.heap.size 5 1 r (c.lk i + 40) (bytesL (c.lk i + 40) (rmF (c.lk i) (c.key i)))
  rooms : W.ownsRow V1.heap.size 22 1 u6 (i + 1) (lL x i ++ [r])
  keys : W.ownsRow V1.heap.size 22 1 u5 i (lL (fun t => cutV (x t) (c.lk t)) i)
  nil5 : i = 0 → u5 = .slice none 0 0
  bel : Below V1.heap.size V1 W
  small : ∀ t, t < i → c.lk t ≤ 400
theorem RM.on {c : RX} {V1 W W' : World} {i : Nat} {x : Nat → Value} {r u5 u6 : Value} (h : RM c V1 W i x r u5 u6) (hb : Below W.heap.size W W') : RM c V1 W' i x r u5 u6 :=
  ⟨fun t ht => ownsRow_below (h.rows t ht) hb, ownsRow_below h.row hb, ownW_below h.rooms hb, ownW_below h.keys hb, h.nil5, h.bel.trans (hb.mono h.bel.size), h.small⟩
theorem lL_upd (x : Nat → Value) (i : Nat) (r : Value) : lL x i ++ [r] = lL (updX x i r) (i + 1) := by
  show lL x i ++ [r] = lL (updX x i r) i ++ [updX x i r i]
  rw [updX_at, lL_congr i (x := x) (y := updX x i r) fun k hk => by
    have e : k ≠ i := by omega
    unfold updX
    rw [if_neg e]]
/-- Two lists of lists whose first elements differ lie apart. -/
theorem apart_first {W : World} {B n m : Nat} {t : TypeId} {v w : Value} {xs ys : List Value} (h : W.ownsRow B t 1 v n xs) (k : W.ownsRow B t 1 w m ys) {e f : Value} (he : xs[0]? = some e) (hf : ys[0]? = some f) (hne : e ≠ f) : ∀ b, v.ownBlock = some b → w.ownBlock ≠ some b := by
  intro b hb q
  rcases h.2 with ⟨rfl, _⟩ | ⟨g, cap, cur, rfl, _, hg, h1, _, _, h4⟩
  · cases hb
  · rcases k.2 with ⟨rfl, _⟩ | ⟨g2, cap2, cur2, rfl, _, hg2, k1, _, _, k4⟩
    · cases q
    · obtain rfl : g = b := Option.some.inj hb
      obtain rfl : g2 = g := Option.some.inj q
      rw [hg] at hg2
      obtain rfl : cur = cur2 := by simpa using hg2
      have n0 : 0 < n * 1 := by
        have := h.1
        have := (List.getElem?_eq_some_iff.1 he).1
        omega
      have m0 : 0 < m * 1 := by
        have := k.1
        have := (List.getElem?_eq_some_iff.1 hf).1
        omega
      rw [← h4, List.getElem?_take, if_pos n0] at he
      rw [← k4, List.getElem?_take, if_pos m0] at hf
      exact hne (Option.some.inj (he.symm.trans hf))
theorem cut_ne {W : World} {B l : Nat} {v : Value} {xs : List Value} (h : W.ownsRow B 5 1 v (l + 40) xs) : cutV v l ≠ v := by
  obtain ⟨a, c, rfl⟩ := own_shapeJ h
  intro e
  injection e with _ e
  omega
theorem RB.dis {c : RX} {V1 W : World} {i : Nat} {x : Nat → Value} {u5 u6 : Value} (h : RB c V1 W i x u5 u6) : ∀ b, u5.ownBlock = some b → u6.ownBlock ≠ some b := by
  by_cases h0 : i = 0
  · intro b hb
    rw [h.nil5 h0] at hb
    cases hb
  · exact apart_first h.keys h.rooms (lL_get _ i 0 (by omega)) (lL_get _ i 0 (by omega)) (cut_ne (h.rows 0 (by omega)))
theorem RM.dis {c : RX} {V1 W : World} {i : Nat} {x : Nat → Value} {r u5 u6 : Value} (h : RM c V1 W i x r u5 u6) : ∀ b, u5.ownBlock = some b → u6.ownBlock ≠ some b := by
  by_cases h0 : i = 0
  · intro b hb
    rw [h.nil5 h0] at hb
    cases hb
  · exact apart_first h.keys h.rooms (lL_get _ i 0 (by omega)) (by rw [List.getElem?_append_left (by rw [lL_len]; omega)]; exact lL_get _ i 0 (by omega)) (cut_ne (h.rows 0 (by omega)))
theorem RB.room {c : RX} {V1 W W' : World} {i : Nat} {x : Nat → Value} {u5 u6 r v' : Value} (h : RB c V1 W i x u5 u6) (hr : W.ownsRow V1.heap.size 5 1 r (c.lk i + 40) (bytesL (c.lk i + 40) (rmF (c.lk i) (c.key i)))) (own' : W'.ownsRow V1.heap.size 22 1 v' (i + 1) (lL x i ++ [r])) (gr : W.grownBy W' u6.ownBlock) : RM c V1 W' i x r u5 v' :=
  ⟨fun t ht => own5_grown (h.rows t ht) h.rooms (by decide) gr, own5_grown hr h.rooms (by decide) gr, own', ownW_grown h.keys gr (fun k hk q => h.dis k hk q), h.nil5, h.bel.grown gr h.bel.size (fun k hk => (h.rooms.lt k hk).1), h.small⟩
theorem RM.key {c : RX} {V1 W W' : World} {i rg rc : Nat} {x : Nat → Value} {u5 u6 v' : Value} (h : RM c V1 W i x (.slice (some ⟨rg, 0, none⟩) (c.lk i + 40) rc) u5 u6) (own' : W'.ownsRow V1.heap.size 22 1 v' (i + 1) (lL (fun t => cutV (x t) (c.lk t)) i ++ [.slice (some ⟨rg, 0, none⟩) (c.lk i) rc])) (gr : W.grownBy W' u5.ownBlock) (h4 : c.lk i ≤ 400) : RB c V1 W' (i + 1) (updX x i (.slice (some ⟨rg, 0, none⟩) (c.lk i + 40) rc)) v' u6 := by
  refine ⟨fun t ht => ?_, ?_, ?_, fun e => by omega, h.bel.grown gr h.bel.size (fun k hk => (h.keys.lt k hk).1), fun t ht => ?_⟩
  · by_cases e : t = i
    · subst e
      rw [updX_at]
      exact own5_grown h.row h.keys (by decide) gr
    · unfold updX
      rw [if_neg e]
      exact own5_grown (h.rows t (by omega)) h.keys (by decide) gr
  · rw [← lL_upd]
    exact ownW_grown h.rooms gr (fun k hk q => h.dis k q hk)
  · have e : lL (fun t => cutV (x t) (c.lk t)) i ++ [.slice (some ⟨rg, 0, none⟩) (c.lk i) rc] = lL (fun t => cutV (updX x i (.slice (some ⟨rg, 0, none⟩) (c.lk i + 40) rc) t) (c.lk t)) (i + 1) := by
      show _ = lL _ i ++ [cutV (updX x i _ i) (c.lk i)]
      rw [updX_at, lL_congr i (x := fun t => cutV (x t) (c.lk t)) (y := fun t => cutV (updX x i (.slice (some ⟨rg, 0, none⟩) (c.lk i + 40) rc) t) (c.lk t)) fun k hk => by
        have e : k ≠ i := by omega
        show cutV (x k) _ = cutV (updX x i _ k) _
        unfold updX
        rw [if_neg e]]
      rfl
    rw [e] at own'
    exact own'
  · by_cases e : t = i
    · rw [e]; exact h4
    · exact h.small t (by omega)
def loopOf : Code → Code
  | .seq (.seq _ (.block _ l)) _ => l
  | c => c
set_option maxRecDepth 100000 in
set_option maxHeartbeats 4000000 in
theorem keeps7 (c : RX) (V V1 : World) (F : RF c V V1) (KQ : Act → World → Prop) (h : ∀ (a : Act) (W : World) (x : Nat → Value) (u5 u6 : Value), RA c a → RB c V1 W c.h x u5 u6 → a.eval (.tmp 5) = u5 → a.eval (.tmp 6) = u6 → KQ a W) (a : Act) (A : RA c a) (t5 : a.eval (.tmp 5) = .slice none 0 0) (t6 : a.eval (.tmp 6) = .slice none 0 0) (t7 : a.eval (.tmp 7) = .int .i64 ((0 : Nat) : Int)) (W : World) (bel : Below V1.heap.size V1 W) :
    (loopOf (fromR 6 (Tryd.f7.body.getD .skip))).wp Tryd.prog (Exit.inBlock 0 (Exit.then KQ (bodyPost Tryd.prog Tryd.f7 fun e w' => e = .returned (.bool true) ∧ Below V.heap.size V w'))) a W := by
  refine wp_loop (fun a W => ∃ (i : Nat) (x : Nat → Value) (u5 u6 : Value), i ≤ c.h ∧ RA c a ∧ a.eval (.tmp 7) = .int .i64 ((i : Nat) : Int) ∧ a.eval (.tmp 5) = u5 ∧ a.eval (.tmp 6) = u6 ∧ RB c V1 W i x u5 u6) (fun a _ => c.h - (intOf (a.eval (.tmp 7))).toNat) ⟨0, fun _ => undef, _, _, Nat.zero_le _, A, t7, t5, t6, ⟨fun t ht => by omega, World.ownsRow_nil _ _ _ _, World.ownsRow_nil _ _ _ _, fun _ => rfl, bel, fun t ht => by omega⟩⟩ ?_
  clear A t5 t6 t7 bel a W
  rintro a W ⟨i, x, u5, u6, hi, A, t7, t5, t6, B⟩
  have e7 := t7
  refine wp_seq ?_
  refine wp_seq ?_
  refine wp_region_sqK 375 [(0, 53), (1, 54), (2, 55), (3, 56), (4, 57)] (fun i_ => match i_ with | 0 => .int .i64 ((i : Nat) : Int) | 1 => .pointer (some ⟨c.J, 0, none⟩) | 2 => .slice c.ka c.h c.kc | 3 => .int .i64 ((c.h : Nat) : Int) | 4 => .bool (decide (i < c.h)) | _ => undef) A.sz (by kernel_rfl) (by decide) (by decide) ?_ ?_
  · intro i_ hi_ a hf hv hn
    match i_, hi_ with
    | 0, _ => exact stepV rfl rfl (execMvB rfl ((hf 7 (by decide)).trans t7)) ⟨⟨_, rfl, rfl⟩, rfl⟩
    | 1, _ => exact stepV rfl rfl (execFC (k := 0) (f := 0) (by simp) rfl ((hf 2 (by decide)).trans A.t2)) ⟨⟨_, rfl, rfl⟩, rfl⟩
    | 2, _ => exact stepV rfl rfl (execLdLL rfl (hv 1 (by omega) _ rfl _ rfl) (hC_at (F.jobW B.bel)).1) ⟨⟨_, rfl, rfl⟩, rfl⟩
    | 3, _ => exact stepV rfl rfl (execLenL (len := c.h) rfl (hv 2 (by omega) _ rfl _ rfl)) ⟨⟨_, rfl, rfl⟩, rfl⟩
    | 4, _ => exact stepV rfl rfl (execLtW (p := i) (q := c.h) rfl (hv 0 (by omega) _ rfl _ rfl) (hv 3 (by omega) _ rfl _ rfl)) ⟨⟨_, rfl, rfl⟩, rfl⟩
    | k_ + 5, h_ => exact absurd h_ (by simp)
  intro a h1 h2 h3 h4
  have t7 := (h3 7 (by decide)).trans t7
  have t5 := (h3 5 (by decide)).trans t5
  have t6 := (h3 6 (by decide)).trans t6
  have t57 : a.eval (.tmp 57) = .bool (decide (i < c.h)) := h4 4 _ rfl _ rfl
  have A := A.keep h1 h2 h3 (by decide)
  clear h1 h2 h3 h4
  by_cases hlt : i < c.h
  · rw [decide_eq_true hlt] at t57
    refine wp_cond_true t57 ?_
    refine wp_skip ?_
    clear t57
    obtain ⟨hka, hkb, hkc⟩ := F.ka (by omega)
    have jk : ∀ X, Below V1.heap.size V1 X → X.cell? ⟨c.J, 0, none⟩ = some (.slice (some ⟨c.kb, c.ko, none⟩) c.h c.kc) := fun X hX => by rw [(hC_at (F.jobW hX)).1]; show some (Value.slice c.ka c.h c.kc) = _; rw [hka]
    obtain ⟨la, lc, ey, _⟩ := (F.cells.cell i hlt).shape
    have cV : ∀ X, Below V1.heap.size V1 X → X.cell? ⟨c.kb, c.ko + i, none⟩ = some (.slice la (c.lk i) lc) := fun X hX => by rw [cell_below (F.belW hX) hkb, hkc i hlt, ey]
    have cX := cV W B.bel
    have cW : ∀ X, Below W.heap.size W X → X.cell? ⟨c.kb, c.ko + i, none⟩ = some (.slice la (c.lk i) lc) := fun X hX => cV X (B.on hX).bel
    have sW : ∀ X, Below W.heap.size W X → SliceN X (.slice la (c.lk i) lc) (c.lk i) (c.key i) := fun X hX => by
      have := (F.cells.cell i hlt).on (F.belW (B.on hX).bel)
      rw [ey] at this
      exact this
    have nX : ∀ l cc, Value.slice la (c.lk i) lc = .slice none l cc → cc = 0 := fun l cc e => F.cells.nil i hlt l cc (ey.trans e)
    refine wp_seq ?_
    refine wp_block ?_
    refine wp_seq ?_
    refine wp_seq ?_
    refine wp_region_sqK 375 [(0, 60), (1, 61), (2, 62), (3, 63), (4, 64), (5, 65), (6, 66)] (fun i_ => match i_ with | 0 => .pointer (some ⟨c.J, 0, none⟩) | 1 => .slice (some ⟨c.kb, c.ko, none⟩) c.h c.kc | 2 => .int .i64 ((i : Nat) : Int) | 3 => .pointer (some ⟨c.kb, c.ko + i, none⟩) | 4 => .slice la (c.lk i) lc | 5 => .int .i64 (((c.lk i) : Nat) : Int) | 6 => .bool (decide (400 < (c.lk i))) | _ => undef) A.sz (by kernel_rfl) (by decide) (by decide) ?_ ?_
    · intro i_ hi_ a hf hv hn
      match i_, hi_ with
      | 0, _ => exact stepV rfl rfl (execFC (k := 0) (f := 0) (by simp) rfl ((hf 2 (by decide)).trans A.t2)) ⟨⟨_, rfl, rfl⟩, rfl⟩
      | 1, _ => exact stepV rfl rfl (execLdLL rfl (hv 0 (by omega) _ rfl _ rfl) (jk _ B.bel)) ⟨⟨_, rfl, rfl⟩, rfl⟩
      | 2, _ => exact stepV rfl rfl (execMvB rfl ((hf 7 (by decide)).trans t7)) ⟨⟨_, rfl, rfl⟩, rfl⟩
      | 3, _ => exact stepV rfl rfl (execIdxL (k := i) rfl (hv 1 (by omega) _ rfl _ rfl) (hv 2 (by omega) _ rfl _ rfl) (by exact hlt)) ⟨⟨_, rfl, rfl⟩, rfl⟩
      | 4, _ => exact stepV rfl rfl (execLdL rfl (hv 3 (by omega) _ rfl _ rfl) cX) ⟨⟨_, rfl, rfl⟩, rfl⟩
      | 5, _ => exact stepV rfl rfl (execLenV (len := (c.lk i)) rfl (hv 4 (by omega) _ rfl _ rfl) ⟨_, _, rfl⟩) ⟨⟨_, rfl, rfl⟩, rfl⟩
      | 6, _ => exact stepV rfl rfl (execGt8 (p := (c.lk i)) (q := 400) rfl (hv 5 (by omega) _ rfl _ rfl)) ⟨⟨_, rfl, rfl⟩, rfl⟩
      | k_ + 7, h_ => exact absurd h_ (by simp)
    intro a h1 h2 h3 h4
    have t7 := (h3 7 (by decide)).trans t7
    have t5 := (h3 5 (by decide)).trans t5
    have t6 := (h3 6 (by decide)).trans t6
    have t66 : a.eval (.tmp 66) = .bool (decide (400 < (c.lk i))) := h4 6 _ rfl _ rfl
    have A := A.keep h1 h2 h3 (by decide)
    clear h1 h2 h3 h4
    by_cases h400 : 400 < c.lk i
    · rw [decide_eq_true h400] at t66
      refine wp_cond_true t66 ?_
      refine wp_seq ?_
      refine wp_region_sqK 375 [(0, 4)] (fun i_ => match i_ with | 0 => .bool true | _ => undef) A.sz (by kernel_rfl) (by decide) (by decide) ?_ ?_
      · intro i_ hi_ a hf hv hn
        match i_, hi_ with
        | 0, _ => exact stepV rfl rfl (execAsgB rfl rfl) ⟨⟨_, rfl, rfl⟩, rfl⟩
        | k_ + 1, h_ => exact absurd h_ (by simp)
      intro a h1 h2 h3 h4
      have t4 : a.eval (.tmp 4) = .bool true := h4 0 _ rfl _ rfl
      have A := A.keep h1 h2 h3 (by decide)
      clear h1 h2 h3 h4
      refine wp_ret ?_
      repeat (first | refine ret_then ?_ | refine ret_in ?_)
      refine bodyPost_ret (results_tmp rfl _ _ _) A.df ⟨?_, F.belW B.bel⟩
      show Ending.returned (a.eval (.tmp 4)) = _
      rw [t4]
    · rw [decide_eq_false h400] at t66
      refine wp_cond_false t66 ?_
      refine wp_skip ?_
      clear t66
      have h400 : c.lk i ≤ 400 := by omega
      refine wp_seq ?_
      refine wp_region_sq (σ := Nat × Value) 375 [(0, 67), (1, 68), (2, 69), (3, 70), (4, 71), (5, 72), (6, 73), (7, 8)] (fun j_ s X => Below W.heap.size W X ∧ (match j_ with | 0 => True | 1 => X.ownsRow W.heap.size 5 1 (.slice (some ⟨s.1, 0, none⟩) 0 0) 0 (bytesL 0 (rmF (c.lk i) (c.key i))) | 2 => X.ownsRow W.heap.size 5 1 (.slice (some ⟨s.1, 0, none⟩) 0 0) 0 (bytesL 0 (rmF (c.lk i) (c.key i))) | 3 => X.ownsRow W.heap.size 5 1 (.slice (some ⟨s.1, 0, none⟩) 0 0) 0 (bytesL 0 (rmF (c.lk i) (c.key i))) | 4 => X.ownsRow W.heap.size 5 1 (.slice (some ⟨s.1, 0, none⟩) 0 0) 0 (bytesL 0 (rmF (c.lk i) (c.key i))) | 5 => X.ownsRow W.heap.size 5 1 (.slice (some ⟨s.1, 0, none⟩) 0 0) 0 (bytesL 0 (rmF (c.lk i) (c.key i))) | 6 => X.ownsRow W.heap.size 5 1 (.slice (some ⟨s.1, 0, none⟩) 0 0) 0 (bytesL 0 (rmF (c.lk i) (c.key i))) | 7 => X.ownsRow W.heap.size 5 1 s.2 (c.lk i) (bytesL (c.lk i) (rmF (c.lk i) (c.key i))) | _ => X.ownsRow W.heap.size 5 1 s.2 (c.lk i) (bytesL (c.lk i) (rmF (c.lk i) (c.key i))))) (fun s => fun i_ => match i_ with | 0 => .slice (some ⟨s.1, 0, none⟩) 0 0 | 1 => .pointer (some ⟨c.J, 0, none⟩) | 2 => .slice (some ⟨c.kb, c.ko, none⟩) c.h c.kc | 3 => .int .i64 ((i : Nat) : Int) | 4 => .pointer (some ⟨c.kb, c.ko + i, none⟩) | 5 => .slice la (c.lk i) lc | 6 => s.2 | 7 => s.2 | _ => undef) (0, undef) A.sz (by kernel_rfl) (by decide) (by decide) ⟨Below.refl _ _, trivial⟩ ?_ ?_
      · intro i_ hi_ s a X hf hv hn hS
        match i_, hi_ with
        | 0, _ =>
          exact stepV rfl rfl (execBs0 rfl) ⟨(X.heap.size, s.2), ⟨_, rfl, rfl⟩, ⟨hS.1.trans ((belNew X _).mono hS.1.size), own_base (own_none X (rmF (c.lk i) (c.key i))) hS.1.size⟩, fun i hi => by omega⟩
        | 1, _ => exact stepV rfl rfl (execFC (k := 0) (f := 0) (by simp) rfl ((hf 2 (by decide)).trans A.t2)) ⟨s, ⟨_, rfl, rfl⟩, hS, fun _ _ => rfl⟩
        | 2, _ => exact stepV rfl rfl (execLdLL rfl (hv 1 (by omega) _ rfl _ rfl) (jk _ (B.on hS.1).bel)) ⟨s, ⟨_, rfl, rfl⟩, hS, fun _ _ => rfl⟩
        | 3, _ => exact stepV rfl rfl (execMvB rfl ((hf 7 (by decide)).trans t7)) ⟨s, ⟨_, rfl, rfl⟩, hS, fun _ _ => rfl⟩
        | 4, _ => exact stepV rfl rfl (execIdxL (k := i) rfl (hv 2 (by omega) _ rfl _ rfl) (hv 3 (by omega) _ rfl _ rfl) (by exact hlt)) ⟨s, ⟨_, rfl, rfl⟩, hS, fun _ _ => rfl⟩
        | 5, _ => exact stepV rfl rfl (execLdL rfl (hv 4 (by omega) _ rfl _ rfl) (cW X hS.1)) ⟨s, ⟨_, rfl, rfl⟩, hS, fun _ _ => rfl⟩
        | 6, _ =>
          refine stepAppN (p := (rmF (c.lk i) (c.key i))) rfl rfl rfl (hv 0 (by omega) _ rfl _ rfl) (hv 5 (by omega) _ rfl _ rfl) hS.2 (sliceN_cg (sW X hS.1) fun j hj => by rw [Nat.zero_add]; exact (if_pos hj).symm) nX (by omega) hS.1.size fun v' W' own' gr => ⟨(s.1, v'), ⟨_, rfl, rfl⟩, ⟨hS.1.grown gr hS.1.size (fun k hk => (hS.2.lt k hk).1), by rw [Nat.zero_add] at own'; exact own'⟩, fun i hi => ?_⟩
          match i, hi with
          | 0, _ => rfl
          | 1, _ => rfl
          | 2, _ => rfl
          | 3, _ => rfl
          | 4, _ => rfl
          | 5, _ => rfl
          | n_ + 6, h_ => omega
        | 7, _ => exact stepV rfl rfl (execAsgB rfl (hv 6 (by omega) _ rfl _ rfl)) ⟨s, ⟨_, rfl, rfl⟩, hS, fun _ _ => rfl⟩
        | k_ + 8, h_ => exact absurd h_ (by simp)
      intro s a X h1 h2 h3 h4 hS
      have hS : Below W.heap.size W X ∧ (X.ownsRow W.heap.size 5 1 s.2 (c.lk i) (bytesL (c.lk i) (rmF (c.lk i) (c.key i)))) := hS
      have t7 := (h3 7 (by decide)).trans t7
      have t5 := (h3 5 (by decide)).trans t5
      have t6 := (h3 6 (by decide)).trans t6
      have t8 : a.eval (.tmp 8) = s.2 := h4 7 _ rfl _ rfl
      have A := A.keep h1 h2 h3 (by decide)
      clear h1 h2 h3 h4
      obtain ⟨g11, r⟩ := s
      have t8 : a.eval (.tmp 8) = r := t8
      obtain ⟨belX, ownX⟩ := hS
      obtain ⟨W0, hW0⟩ : ∃ W0, W0 = W := ⟨_, rfl⟩
      rw [← hW0] at belX ownX
      have B0 : RB c V1 W0 i x u5 u6 := by rw [hW0]; exact B
      clear B hW0 cX cW sW
      refine wp_seq ?_
      refine wp_seq ?_
      refine wp_region_sqK 375 [(0, 9)] (fun i_ => match i_ with | 0 => .int .i64 ((0 : Nat) : Int) | _ => undef) A.sz (by kernel_rfl) (by decide) (by decide) ?_ ?_
      · intro i_ hi_ a hf hv hn
        match i_, hi_ with
        | 0, _ => exact stepV rfl rfl (execAsgB rfl rfl) ⟨⟨_, rfl, rfl⟩, rfl⟩
        | k_ + 1, h_ => exact absurd h_ (by simp)
      intro a h1 h2 h3 h4
      have t7 := (h3 7 (by decide)).trans t7
      have t5 := (h3 5 (by decide)).trans t5
      have t6 := (h3 6 (by decide)).trans t6
      have t8 := (h3 8 (by decide)).trans t8
      have t9 : a.eval (.tmp 9) = .int .i64 ((0 : Nat) : Int) := h4 0 _ rfl _ rfl
      have A := A.keep h1 h2 h3 (by decide)
      clear h1 h2 h3 h4
      refine wp_block ?_
      refine wp_loop (fun a W => ∃ (k : Nat) (r : Value), k ≤ 40 ∧ RA c a ∧ a.eval (.tmp 7) = .int .i64 ((i : Nat) : Int) ∧ a.eval (.tmp 5) = u5 ∧ a.eval (.tmp 6) = u6 ∧ a.eval (.tmp 8) = r ∧ a.eval (.tmp 9) = .int .i64 ((k : Nat) : Int) ∧ Below W0.heap.size W0 W ∧ W.ownsRow W0.heap.size 5 1 r (c.lk i + k) (bytesL (c.lk i + k) (rmF (c.lk i) (c.key i)))) (fun a _ => 40 - (intOf (a.eval (.tmp 9))).toNat) ⟨0, _, by omega, A, t7, t5, t6, t8, t9, belX, ownX⟩ ?_
      clear A t7 t5 t6 t8 t9 belX ownX a
      rintro a W ⟨k, r, hk, A, t7, t5, t6, t8, t9, bel0, own0⟩
      have e9 := t9
      refine wp_seq ?_
      refine wp_seq ?_
      refine wp_region_sqK 375 [(0, 74), (1, 75)] (fun i_ => match i_ with | 0 => .int .i64 ((k : Nat) : Int) | 1 => .bool (decide (k < 40)) | _ => undef) A.sz (by kernel_rfl) (by decide) (by decide) ?_ ?_
      · intro i_ hi_ a hf hv hn
        match i_, hi_ with
        | 0, _ => exact stepV rfl rfl (execMvB rfl ((hf 9 (by decide)).trans t9)) ⟨⟨_, rfl, rfl⟩, rfl⟩
        | 1, _ => exact stepV rfl rfl (execLt8 (p := k) (q := 40) rfl (hv 0 (by omega) _ rfl _ rfl)) ⟨⟨_, rfl, rfl⟩, rfl⟩
        | k_ + 2, h_ => exact absurd h_ (by simp)
      intro a h1 h2 h3 h4
      have t7 := (h3 7 (by decide)).trans t7
      have t5 := (h3 5 (by decide)).trans t5
      have t6 := (h3 6 (by decide)).trans t6
      have t8 := (h3 8 (by decide)).trans t8
      have t9 := (h3 9 (by decide)).trans t9
      have t75 : a.eval (.tmp 75) = .bool (decide (k < 40)) := h4 1 _ rfl _ rfl
      have A := A.keep h1 h2 h3 (by decide)
      clear h1 h2 h3 h4
      by_cases hk4 : k < 40
      · rw [decide_eq_true hk4] at t75
        refine wp_cond_true t75 ?_
        refine wp_skip ?_
        clear t75
        refine wp_seq ?_
        refine wp_block ?_
        refine wp_region_sq (σ := Nat × Value) 375 [(0, 78), (1, 79), (2, 80), (3, 8)] (fun j_ s X => True ∧ (match j_ with | 0 => Below W0.heap.size W0 X ∧ (X.ownsRow W0.heap.size 5 1 r (c.lk i + k) (bytesL (c.lk i + k) (rmF (c.lk i) (c.key i)))) | 1 => Below W0.heap.size W0 X ∧ (X.ownsRow W0.heap.size 5 1 r (c.lk i + k) (bytesL (c.lk i + k) (rmF (c.lk i) (c.key i)))) | 2 => Below W0.heap.size W0 X ∧ (X.ownsRow W0.heap.size 5 1 r (c.lk i + k) (bytesL (c.lk i + k) (rmF (c.lk i) (c.key i))) ∧ X.heap[s.1]? = some (.cells #[.int .u8 165] 5)) | 3 => Below W0.heap.size W0 X ∧ (X.ownsRow W0.heap.size 5 1 s.2 (c.lk i + k + 1) (bytesL (c.lk i + k + 1) (rmF (c.lk i) (c.key i)))) | _ => Below W0.heap.size W0 X ∧ (X.ownsRow W0.heap.size 5 1 s.2 (c.lk i + k + 1) (bytesL (c.lk i + k + 1) (rmF (c.lk i) (c.key i)))))) (fun s => fun i_ => match i_ with | 0 => r | 1 => .slice (some ⟨s.1, 0, none⟩) 1 1 | 2 => s.2 | 3 => s.2 | _ => undef) (0, undef) A.sz (by kernel_rfl) (by decide) (by decide) ⟨trivial, bel0, own0⟩ ?_ ?_
        · intro i_ hi_ s a X hf hv hn hS
          match i_, hi_ with
          | 0, _ => exact stepV rfl rfl (execMvB rfl ((hn 3 (by omega) _ rfl _ rfl).trans t8)) ⟨s, ⟨_, rfl, rfl⟩, hS, fun _ _ => rfl⟩
          | 1, _ =>
            refine stepV rfl rfl (execBsU rfl) ⟨(X.heap.size, s.2), ⟨_, rfl, rfl⟩, ⟨trivial, hS.2.1.trans ((belNew X _).mono hS.2.1.size), ownsRow_below hS.2.2 (belNew X _), heapNew X _⟩, fun i hi => ?_⟩
            match i, hi with
            | 0, _ => rfl
            | n_ + 1, h_ => omega
          | 2, _ =>
            refine stepAppN (m := 1) (p := (rmF (c.lk i) (c.key i))) rfl rfl rfl (hv 0 (by omega) _ rfl _ rfl) (hv 1 (by omega) _ rfl _ rfl) hS.2.2.1 (one_slice (z := 165) hS.2.2.2 (by show rmF (c.lk i) (c.key i) (c.lk i + k + 0) = 165; unfold rmF; rw [if_neg (by omega)]) (by omega)) (fun l c e => by cases e) (by omega) hS.2.1.size fun v' W' own' gr => ⟨(s.1, v'), ⟨_, rfl, rfl⟩, ⟨trivial, hS.2.1.grown gr hS.2.1.size (fun k hk => (hS.2.2.1.lt k hk).1), own'⟩, fun i hi => ?_⟩
            match i, hi with
            | 0, _ => rfl
            | 1, _ => rfl
            | n_ + 2, h_ => omega
          | 3, _ => exact stepV rfl rfl (execAsgB rfl (hv 2 (by omega) _ rfl _ rfl)) ⟨s, ⟨_, rfl, rfl⟩, hS, fun _ _ => rfl⟩
          | k_ + 4, h_ => exact absurd h_ (by simp)
        intro s a X h1 h2 h3 h4 hS
        have hS : True ∧ Below W0.heap.size W0 X ∧ (X.ownsRow W0.heap.size 5 1 s.2 (c.lk i + k + 1) (bytesL (c.lk i + k + 1) (rmF (c.lk i) (c.key i)))) := hS
        have t7 := (h3 7 (by decide)).trans t7
        have t5 := (h3 5 (by decide)).trans t5
        have t6 := (h3 6 (by decide)).trans t6
        have t8 : a.eval (.tmp 8) = s.2 := h4 3 _ rfl _ rfl
        have t9 := (h3 9 (by decide)).trans t9
        have A := A.keep h1 h2 h3 (by decide)
        clear h1 h2 h3 h4
        obtain ⟨g15, r⟩ := s
        have t8 : a.eval (.tmp 8) = r := t8
        obtain ⟨_, bel0, own0⟩ := hS
        refine wp_region_sqK 375 [(0, 76), (1, 77), (2, 9)] (fun i_ => match i_ with | 0 => .int .i64 ((k : Nat) : Int) | 1 => .int .i64 ((k + 1 : Nat) : Int) | 2 => .int .i64 ((k + 1 : Nat) : Int) | _ => undef) A.sz (by kernel_rfl) (by decide) (by decide) ?_ ?_
        · intro i_ hi_ a hf hv hn
          match i_, hi_ with
          | 0, _ => exact stepV rfl rfl (execMvB rfl ((hn 2 (by omega) _ rfl _ rfl).trans t9)) ⟨⟨_, rfl, rfl⟩, rfl⟩
          | 1, _ => exact stepV rfl rfl (execAd8 (p := k) (q := 1) rfl (hv 0 (by omega) _ rfl _ rfl) rfl (by omega)) ⟨⟨_, rfl, rfl⟩, rfl⟩
          | 2, _ => exact stepV rfl rfl (execAsgB rfl (hv 1 (by omega) _ rfl _ rfl)) ⟨⟨_, rfl, rfl⟩, rfl⟩
          | k_ + 3, h_ => exact absurd h_ (by simp)
        intro a h1 h2 h3 h4
        have t7 := (h3 7 (by decide)).trans t7
        have t5 := (h3 5 (by decide)).trans t5
        have t6 := (h3 6 (by decide)).trans t6
        have t8 := (h3 8 (by decide)).trans t8
        have t9 : a.eval (.tmp 9) = .int .i64 ((k + 1 : Nat) : Int) := h4 2 _ rfl _ rfl
        have A := A.keep h1 h2 h3 (by decide)
        clear h1 h2 h3 h4
        exact ⟨⟨k + 1, r, hk4, A, t7, t5, t6, t8, t9, bel0, own0⟩, by show 40 - (intOf (a.eval (.tmp 9))).toNat < 40 - (intOf (Act.eval _ (.tmp 9))).toNat; rw [t9, e9]; show 40 - (k + 1) < 40 - k; omega⟩
      · rw [decide_eq_false hk4] at t75
        refine wp_cond_false t75 ?_
        refine wp_exit ?_
        first | refine exit_in ?_ | refine exit_then (exit_in ?_) | refine exit_then (exit_then (exit_in ?_))
        obtain rfl : k = 40 := by omega
        have B := B0.on bel0
        have ownr := own_base own0 B0.bel.size
        obtain ⟨rg, rc, rfl, _, hcap, _⟩ := own_cells ownr (by omega)
        clear bel0 own0
        refine wp_seq ?_
        refine wp_region_sq (σ := Nat × Value) 375 [(0, 81), (1, 82), (2, 83), (3, 84), (4, 6)] (fun j_ s X => True ∧ (match j_ with | 0 => RB c V1 X i x u5 u6 ∧ X.ownsRow V1.heap.size 5 1 (.slice (some ⟨rg, 0, none⟩) (c.lk i + 40) rc) (c.lk i + 40) (bytesL (c.lk i + 40) (rmF (c.lk i) (c.key i))) | 1 => RB c V1 X i x u5 u6 ∧ X.ownsRow V1.heap.size 5 1 (.slice (some ⟨rg, 0, none⟩) (c.lk i + 40) rc) (c.lk i + 40) (bytesL (c.lk i + 40) (rmF (c.lk i) (c.key i))) | 2 => RB c V1 X i x u5 u6 ∧ X.ownsRow V1.heap.size 5 1 (.slice (some ⟨rg, 0, none⟩) (c.lk i + 40) rc) (c.lk i + 40) (bytesL (c.lk i + 40) (rmF (c.lk i) (c.key i))) | 3 => RB c V1 X i x u5 u6 ∧ X.ownsRow V1.heap.size 5 1 (.slice (some ⟨rg, 0, none⟩) (c.lk i + 40) rc) (c.lk i + 40) (bytesL (c.lk i + 40) (rmF (c.lk i) (c.key i))) ∧ X.heap[s.1]? = some (.cells #[.slice (some ⟨rg, 0, none⟩) (c.lk i + 40) rc] 22) | 4 => RM c V1 X i x (.slice (some ⟨rg, 0, none⟩) (c.lk i + 40) rc) u5 s.2 | _ => RM c V1 X i x (.slice (some ⟨rg, 0, none⟩) (c.lk i + 40) rc) u5 s.2)) (fun s => fun i_ => match i_ with | 0 => u6 | 1 => .slice (some ⟨rg, 0, none⟩) (c.lk i + 40) rc | 2 => .slice (some ⟨s.1, 0, none⟩) 1 1 | 3 => s.2 | 4 => s.2 | _ => undef) (0, undef) A.sz (by kernel_rfl) (by decide) (by decide) ⟨trivial, B, ownr⟩ ?_ ?_
        · intro i_ hi_ s a X hf hv hn hS
          match i_, hi_ with
          | 0, _ => exact stepV rfl rfl (execMvB rfl ((hn 4 (by omega) _ rfl _ rfl).trans t6)) ⟨s, ⟨_, rfl, rfl⟩, hS, fun _ _ => rfl⟩
          | 1, _ => exact stepV rfl rfl (execMvB rfl ((hf 8 (by decide)).trans t8)) ⟨s, ⟨_, rfl, rfl⟩, hS, fun _ _ => rfl⟩
          | 2, _ =>
            refine stepV rfl rfl (execBsL rfl (hv 1 (by omega) _ rfl _ rfl) ⟨_, _, _, rfl⟩) ⟨(X.heap.size, s.2), ⟨_, rfl, rfl⟩, ⟨trivial, hS.2.1.on (belNew X _), ownsRow_below hS.2.2 (belNew X _), heapNew X _⟩, fun i hi => ?_⟩
            match i, hi with
            | 0, _ => rfl
            | 1, _ => rfl
            | n_ + 2, h_ => omega
          | 3, _ =>
            refine stepAppLs rfl rfl rfl (hv 0 (by omega) _ rfl _ rfl) (hv 2 (by omega) _ rfl _ rfl) hS.2.1.rooms hS.2.2.2 rfl (fun u hu => by simp at hu; rw [hu]; rfl) (by have := F.sz; omega) hS.2.1.bel.size fun v' W' own' gr => ⟨(s.1, v'), ⟨_, rfl, rfl⟩, ⟨trivial, hS.2.1.room hS.2.2.1 own' gr⟩, fun i hi => ?_⟩
            match i, hi with
            | 0, _ => rfl
            | 1, _ => rfl
            | 2, _ => rfl
            | n_ + 3, h_ => omega
          | 4, _ => exact stepV rfl rfl (execAsgB rfl (hv 3 (by omega) _ rfl _ rfl)) ⟨s, ⟨_, rfl, rfl⟩, hS, fun _ _ => rfl⟩
          | k_ + 5, h_ => exact absurd h_ (by simp)
        intro s a X h1 h2 h3 h4 hS
        have hM : RM c V1 X i x (.slice (some ⟨rg, 0, none⟩) (c.lk i + 40) rc) u5 s.2 := hS.2
        obtain ⟨g16, w6⟩ := s
        have t7 := (h3 7 (by decide)).trans t7
        have t5 := (h3 5 (by decide)).trans t5
        have t8 := (h3 8 (by decide)).trans t8
        have t6 : a.eval (.tmp 6) = w6 := h4 4 _ rfl _ rfl
        have A := A.keep h1 h2 h3 (by decide)
        clear h1 h2 h3 h4
        revert hM
        generalize X = W
        intro hM
        refine wp_region_sq (σ := Nat × Value) 375 [(0, 85), (1, 86), (2, 87), (3, 88), (4, 89), (5, 90), (6, 91), (7, 92), (8, 93), (9, 94), (10, 95), (11, 5)] (fun j_ s X => True ∧ (match j_ with | 0 => RM c V1 X i x (.slice (some ⟨rg, 0, none⟩) (c.lk i + 40) rc) u5 w6 ∧ True | 1 => RM c V1 X i x (.slice (some ⟨rg, 0, none⟩) (c.lk i + 40) rc) u5 w6 ∧ True | 2 => RM c V1 X i x (.slice (some ⟨rg, 0, none⟩) (c.lk i + 40) rc) u5 w6 ∧ True | 3 => RM c V1 X i x (.slice (some ⟨rg, 0, none⟩) (c.lk i + 40) rc) u5 w6 ∧ True | 4 => RM c V1 X i x (.slice (some ⟨rg, 0, none⟩) (c.lk i + 40) rc) u5 w6 ∧ True | 5 => RM c V1 X i x (.slice (some ⟨rg, 0, none⟩) (c.lk i + 40) rc) u5 w6 ∧ True | 6 => RM c V1 X i x (.slice (some ⟨rg, 0, none⟩) (c.lk i + 40) rc) u5 w6 ∧ True | 7 => RM c V1 X i x (.slice (some ⟨rg, 0, none⟩) (c.lk i + 40) rc) u5 w6 ∧ True | 8 => RM c V1 X i x (.slice (some ⟨rg, 0, none⟩) (c.lk i + 40) rc) u5 w6 ∧ True | 9 => RM c V1 X i x (.slice (some ⟨rg, 0, none⟩) (c.lk i + 40) rc) u5 w6 ∧ True | 10 => RM c V1 X i x (.slice (some ⟨rg, 0, none⟩) (c.lk i + 40) rc) u5 w6 ∧ X.heap[s.1]? = some (.cells #[.slice (some ⟨rg, 0, none⟩) (c.lk i) rc] 22) | 11 => RB c V1 X (i + 1) (updX x i (.slice (some ⟨rg, 0, none⟩) (c.lk i + 40) rc)) s.2 w6 ∧ True | _ => RB c V1 X (i + 1) (updX x i (.slice (some ⟨rg, 0, none⟩) (c.lk i + 40) rc)) s.2 w6 ∧ True)) (fun s => fun i_ => match i_ with | 0 => u5 | 1 => .slice (some ⟨rg, 0, none⟩) (c.lk i + 40) rc | 2 => .pointer (some ⟨c.J, 0, none⟩) | 3 => .slice (some ⟨c.kb, c.ko, none⟩) c.h c.kc | 4 => .int .i64 ((i : Nat) : Int) | 5 => .pointer (some ⟨c.kb, c.ko + i, none⟩) | 6 => .slice la (c.lk i) lc | 7 => .int .i64 (((c.lk i) : Nat) : Int) | 8 => .slice (some ⟨rg, 0, none⟩) (c.lk i) rc | 9 => .slice (some ⟨s.1, 0, none⟩) 1 1 | 10 => s.2 | 11 => s.2 | _ => undef) (0, undef) A.sz (by kernel_rfl) (by decide) (by decide) ⟨trivial, hM, trivial⟩ ?_ ?_
        · intro i_ hi_ s a X hf hv hn hS
          match i_, hi_ with
          | 0, _ => exact stepV rfl rfl (execMvB rfl ((hn 11 (by omega) _ rfl _ rfl).trans t5)) ⟨s, ⟨_, rfl, rfl⟩, hS, fun _ _ => rfl⟩
          | 1, _ => exact stepV rfl rfl (execMvB rfl ((hf 8 (by decide)).trans t8)) ⟨s, ⟨_, rfl, rfl⟩, hS, fun _ _ => rfl⟩
          | 2, _ => exact stepV rfl rfl (execFC (k := 0) (f := 0) (by simp) rfl ((hf 2 (by decide)).trans A.t2)) ⟨s, ⟨_, rfl, rfl⟩, hS, fun _ _ => rfl⟩
          | 3, _ => exact stepV rfl rfl (execLdLL rfl (hv 2 (by omega) _ rfl _ rfl) (jk _ hS.2.1.bel)) ⟨s, ⟨_, rfl, rfl⟩, hS, fun _ _ => rfl⟩
          | 4, _ => exact stepV rfl rfl (execMvB rfl ((hf 7 (by decide)).trans t7)) ⟨s, ⟨_, rfl, rfl⟩, hS, fun _ _ => rfl⟩
          | 5, _ => exact stepV rfl rfl (execIdxL (k := i) rfl (hv 3 (by omega) _ rfl _ rfl) (hv 4 (by omega) _ rfl _ rfl) (by exact hlt)) ⟨s, ⟨_, rfl, rfl⟩, hS, fun _ _ => rfl⟩
          | 6, _ => exact stepV rfl rfl (execLdL rfl (hv 5 (by omega) _ rfl _ rfl) (cV X hS.2.1.bel)) ⟨s, ⟨_, rfl, rfl⟩, hS, fun _ _ => rfl⟩
          | 7, _ => exact stepV rfl rfl (execLenV (len := (c.lk i)) rfl (hv 6 (by omega) _ rfl _ rfl) ⟨_, _, rfl⟩) ⟨s, ⟨_, rfl, rfl⟩, hS, fun _ _ => rfl⟩
          | 8, _ => exact stepV rfl rfl (By8.execSlH rfl (hv 1 (by omega) _ rfl _ rfl) (hv 7 (by omega) _ rfl _ rfl) (sl_h8 rg (c.lk i + 40) rc (c.lk i) (by have := hcap; omega) X)) ⟨s, ⟨_, rfl, rfl⟩, hS, fun _ _ => rfl⟩
          | 9, _ =>
            refine stepV rfl rfl (execBsL rfl (hv 8 (by omega) _ rfl _ rfl) ⟨_, _, _, rfl⟩) ⟨(X.heap.size, s.2), ⟨_, rfl, rfl⟩, ⟨trivial, hS.2.1.on (belNew X _), heapNew X _⟩, fun i hi => ?_⟩
            match i, hi with
            | 0, _ => rfl
            | 1, _ => rfl
            | 2, _ => rfl
            | 3, _ => rfl
            | 4, _ => rfl
            | 5, _ => rfl
            | 6, _ => rfl
            | 7, _ => rfl
            | 8, _ => rfl
            | n_ + 9, h_ => omega
          | 10, _ =>
            refine stepAppLs rfl rfl rfl (hv 0 (by omega) _ rfl _ rfl) (hv 9 (by omega) _ rfl _ rfl) hS.2.1.keys hS.2.2 rfl (fun u hu => by simp at hu; rw [hu]; rfl) (by have := F.sz; omega) hS.2.1.bel.size fun v' W' own' gr => ⟨(s.1, v'), ⟨_, rfl, rfl⟩, ⟨trivial, hS.2.1.key own' gr h400, trivial⟩, fun i hi => ?_⟩
            match i, hi with
            | 0, _ => rfl
            | 1, _ => rfl
            | 2, _ => rfl
            | 3, _ => rfl
            | 4, _ => rfl
            | 5, _ => rfl
            | 6, _ => rfl
            | 7, _ => rfl
            | 8, _ => rfl
            | 9, _ => rfl
            | n_ + 10, h_ => omega
          | 11, _ => exact stepV rfl rfl (execAsgB rfl (hv 10 (by omega) _ rfl _ rfl)) ⟨s, ⟨_, rfl, rfl⟩, hS, fun _ _ => rfl⟩
          | k_ + 12, h_ => exact absurd h_ (by simp)
        intro s a X h1 h2 h3 h4 hS
        have B : RB c V1 X (i + 1) (updX x i (.slice (some ⟨rg, 0, none⟩) (c.lk i + 40) rc)) s.2 w6 := hS.2.1
        obtain ⟨g17, w5⟩ := s
        have t7 := (h3 7 (by decide)).trans t7
        have t6 := (h3 6 (by decide)).trans t6
        have t5 : a.eval (.tmp 5) = w5 := h4 11 _ rfl _ rfl
        have A := A.keep h1 h2 h3 (by decide)
        clear h1 h2 h3 h4
        revert B
        generalize X = W
        intro B
        refine wp_region_sqK 375 [(0, 58), (1, 59), (2, 7)] (fun i_ => match i_ with | 0 => .int .i64 ((i : Nat) : Int) | 1 => .int .i64 ((i + 1 : Nat) : Int) | 2 => .int .i64 ((i + 1 : Nat) : Int) | _ => undef) A.sz (by kernel_rfl) (by decide) (by decide) ?_ ?_
        · intro i_ hi_ a hf hv hn
          match i_, hi_ with
          | 0, _ => exact stepV rfl rfl (execMvB rfl ((hn 2 (by omega) _ rfl _ rfl).trans t7)) ⟨⟨_, rfl, rfl⟩, rfl⟩
          | 1, _ => exact stepV rfl rfl (execAd8 (p := i) (q := 1) rfl (hv 0 (by omega) _ rfl _ rfl) rfl (by have := F.sz; omega)) ⟨⟨_, rfl, rfl⟩, rfl⟩
          | 2, _ => exact stepV rfl rfl (execAsgB rfl (hv 1 (by omega) _ rfl _ rfl)) ⟨⟨_, rfl, rfl⟩, rfl⟩
          | k_ + 3, h_ => exact absurd h_ (by simp)
        intro a h1 h2 h3 h4
        have t7 : a.eval (.tmp 7) = .int .i64 ((i + 1 : Nat) : Int) := h4 2 _ rfl _ rfl
        have t5 := (h3 5 (by decide)).trans t5
        have t6 := (h3 6 (by decide)).trans t6
        have A := A.keep h1 h2 h3 (by decide)
        clear h1 h2 h3 h4
        exact ⟨⟨i + 1, _, w5, w6, hlt, A, t7, t5, t6, B⟩, by show c.h - (intOf (a.eval (.tmp 7))).toNat < c.h - (intOf (Act.eval _ (.tmp 7))).toNat; rw [t7, e7]; show c.h - (i + 1) < c.h - i; omega⟩
  · rw [decide_eq_false hlt] at t57
    refine wp_cond_false t57 ?_
    refine wp_exit ?_
    first | refine exit_in ?_ | refine exit_then (exit_in ?_) | refine exit_then (exit_then (exit_in ?_))
    obtain rfl : i = c.h := by omega
    exact h a W x u5 u6 A B t5 t6
end Go.Proofs.YtcffmmeafnapiaaDoor.Rou
