import Derived.Test.YtijibdapooalcabL9g
namespace Go.Proofs.Ytijibdapooalcab.Win
open Go.RowKit Gf8 Aes By8 Cel Cf
/- WindowKeeps: what Open and Add answer is small; four windows handed to apart; what apart leaves alone. -/

theorem esL_of {n : Nat} {nu : Nat → Int} {ln : Nat → Nat} {t : Nat → Nat → Nat → Nat} {x : Ep} (h : x ∈ esL n nu ln t) : ∃ j, j < n ∧ x = (nu j, tgL (ln j) (t j)) := by
  obtain ⟨j, hj⟩ := List.getElem?_of_mem h
  by_cases q : j < n
  · rw [esL_at q] at hj
    exact ⟨j, q, (Option.some.inj hj).symm⟩
  · rw [List.getElem?_eq_none (by rw [esL_len]; omega)] at hj
    cases hj
theorem open_sub {nw ep s : Int} {es : List Ep} : ((wOpen (nw, es) ep s).1.2).length ≤ es.length ∧ ∀ x, x ∈ (wOpen (nw, es) ep s).1.2 → x ∈ es := by
  unfold wOpen
  by_cases hA : opA ep s
  · rw [if_pos hA]
    by_cases hB : opB (nw, es) ep s
    · rw [if_pos hB]
      exact ⟨Nat.zero_le _, fun x h => by cases h⟩
    · rw [if_neg hB]
      exact ⟨List.length_filter_le _ _, fun x h => (List.mem_filter.1 h).1⟩
  · rw [if_neg hA]
    exact ⟨Nat.zero_le _, fun x h => by cases h⟩
theorem open_small {nw ep s : Int} {n n2 : Nat} {nu nu2 : Nat → Int} {ln ln2 : Nat → Nat} {t t2 : Nat → Nat → Nat → Nat} (hn : n ≤ 50) (hl : ∀ j, j < n → ln j ≤ 5000) (hq : esL n2 nu2 ln2 t2 = (wOpen (nw, esL n nu ln t) ep s).1.2) : n2 ≤ 60 ∧ ∀ j, j < n2 → ln2 j ≤ 1000000 := by
  obtain ⟨h1, h2⟩ := open_sub (nw := nw) (ep := ep) (s := s) (es := esL n nu ln t)
  rw [← hq, esL_len, esL_len] at h1
  refine ⟨by omega, fun j hj => ?_⟩
  have hm : (nu2 j, tgL (ln2 j) (t2 j)) ∈ esL n2 nu2 ln2 t2 := List.mem_of_getElem? (esL_at hj)
  rw [hq] at hm
  obtain ⟨i, hi, e⟩ := esL_of (h2 _ hm)
  have e2 := congrArg List.length (Prod.mk.inj e).2
  rw [len_tgL, len_tgL] at e2
  have := hl i hi
  omega
theorem add_small {w : Wn} {ep r : Int} {T : List Nat} {n2 : Nat} {nu2 : Nat → Int} {ln2 : Nat → Nat} {t2 : Nat → Nat → Nat → Nat} (hq : esL n2 nu2 ln2 t2 = (wAdd w ep T r).1.2) : n2 ≤ 60 ∧ ∀ j, j < n2 → ln2 j ≤ 1000000 := by
  by_cases h : (wAdd w ep T r).2 = 0
  · obtain ⟨_, hA, hB, _⟩ := add_0 h
    have hR : Rgt ((wAdd w ep T r).1.1, esL n2 nu2 ln2 t2) 8 r := by rw [hq]; exact add_rgt (s := 8) hA.2.2 h hB.2.2
    obtain ⟨h1, h2, h3, h4, h5, h6, h7, h8, h9, h10⟩ := hR
    have hok := each_iff.1 h8
    have hn8 : n2 ≤ 8 := few (rise_iff.1 h9) (fun j hj => ⟨(hok j hj).2.1, (hok j hj).2.2.1⟩) (by omega)
    have hlen := al_len (nu := nu2) (t := t2) n2 (ln := ln2)
    have hwl : wLen (esL n2 nu2 ln2 t2) ≤ 4096 := by have q_ : ((wLen (esL n2 nu2 ln2 t2) : Nat) : Int) ≤ r := h7; omega
    refine ⟨by omega, fun j hj => ?_⟩
    have q1 : alN ln2 (j + 1) ≤ alN ln2 n2 := al_mono hj
    have q2 : alN ln2 (j + 1) = alN ln2 j + ln2 j := rfl
    omega
  · have h0 := add_e h
    have hn : n2 = 0 := esL_n hq (by rw [h0]; rfl)
    subst hn
    exact ⟨by omega, fun j hj => absurd hj (Nat.not_lt_zero j)⟩
/-- One of four. -/
def s4 {α : Type} (a b c d : α) (k : Nat) : α := if k = 0 then a else if k = 1 then b else if k = 2 then c else d
theorem all4 {P : Nat → Prop} (h0 : P 0) (h1 : P 1) (h2 : P 2) (h3 : P 3) : ∀ k, k < 4 → P k := fun k hk => by
  match k, hk with
  | 0, _ => exact h0
  | 1, _ => exact h1
  | 2, _ => exact h2
  | 3, _ => exact h3
theorem apH_of {D : ApD} {C : Nat → Nat} (hB : D.B ≤ D.V.heap.size) (hw : D.V.heap[D.gw]? = some (.cells D.cw 24)) (he : ∀ k, k < 4 → D.cw[k * 2 + 1]? = some (D.e k)) (hN : ∀ k, k < 4 → NwE (C k) D.V (D.e k) (D.n k) (D.nu k) (D.tw k) (D.ln k) (D.tt k)) (hC : ∀ k, k < 4 → D.B ≤ C k)
    (hlo : ∀ k l, k < l → l < 4 → (∀ b, (D.e k).ownBlock = some b → b < C l) ∧ ∀ j, j < D.n k → ∀ b, (D.tw k j).ownBlock = some b → b < C l) (h6 : ∀ k, k < 4 → D.n k ≤ 60 ∧ ∀ j, j < D.n k → D.ln k j ≤ 1000000) : ApH D := by
  refine ⟨hB, hw, he, fun k hk => ownE_base (hN k hk).row (hC k hk), fun k hk j hj => ownE_base ((hN k hk).lists j hj) (hC k hk), fun k l hk hl hkl b e q => ?_, fun k l hk hl i j hi hj hne b e q => ?_, fun k hk => (h6 k hk).1, fun k hk => (h6 k hk).2⟩
  · rcases Nat.lt_or_gt_of_ne hkl with h | h
    · have a1 := (hlo k l h hl).1 b e
      have a2 := ((hN l hl).row.lt b q).1
      omega
    · have a1 := (hlo l k h hk).1 b q
      have a2 := ((hN k hk).row.lt b e).1
      omega
  · by_cases hkl : k = l
    · subst hkl
      exact (hN k hk).dis i j hi hj (fun w => hne (by rw [w])) b e q
    · rcases Nat.lt_or_gt_of_ne hkl with h | h
      · have a1 := (hlo k l h hl).2 i hi b e
        have a2 := (((hN l hl).lists j hj).lt b q).1
        omega
      · have a1 := (hlo l k h hk).2 j hj b q
        have a2 := (((hN k hk).lists i hi).lt b e).1
        omega
theorem gd_lt {D : ApD} {C : Nat} (h : ∀ k, k < 4 → (∀ b, (D.e k).ownBlock = some b → b < C) ∧ ∀ j, j < D.n k → ∀ b, (D.tw k j).ownBlock = some b → b < C) : ∀ b, GD D b → b < C := fun b hb => by
  rcases hb with ⟨k, hk, e⟩ | ⟨k, j, hk, hj, e⟩
  · exact (h k hk).1 b e
  · exact (h k hk).2 j hj b e
theorem Sv.own {D : ApD} {W : World} {C n s : Nat} {ty : TypeId} {v : Value} {xs : List Value} (h : Sv D W) (hC : ∀ b, GD D b → b < C) (ho : D.V.ownsRow C ty s v n xs) : W.ownsRow C ty s v n xs := by
  obtain ⟨h0, ho⟩ := ho
  refine ⟨h0, ?_⟩
  rcases ho with ho | ⟨g, cap, cur, e, hB, hg, q⟩
  · exact Or.inl ho
  · refine Or.inr ⟨g, cap, cur, e, hB, ?_, q⟩
    rw [h g (Array.getElem?_eq_some_iff.1 hg).1 (fun w => by have := hC g w; omega)]
    exact hg
theorem Sv.nwe {D : ApD} {W : World} {C n : Nat} {v : Value} {nu : Nat → Int} {tw : Nat → Value} {ln : Nat → Nat} {t : Nat → Nat → Nat → Nat} (h : Sv D W) (hC : ∀ b, GD D b → b < C) (hN : NwE C D.V v n nu tw ln t) : NwE C W v n nu tw ln t :=
  ⟨h.own hC hN.row, fun j hj => h.own hC (hN.lists j hj), hN.dis, hN.byt, hN.nums⟩
theorem own_ty {W : World} {B n s g : Nat} {ty u : TypeId} {v : Value} {xs : List Value} {c : Array Value} (h : W.ownsRow B ty s v n xs) (hb : v.ownBlock = some g) (hg : W.heap[g]? = some (.cells c u)) : u = ty := by
  rcases h.2 with ⟨e, _⟩ | ⟨k, cap, cur, e, _, hk, _⟩
  · rw [e] at hb; cases hb
  · rw [e] at hb
    obtain rfl : k = g := Option.some.inj hb
    refine Classical.byContradiction fun q => ne_type hg hk q rfl
theorem Sv.heap {D : ApD} {W : World} (h : Sv D W) (hH : ApH D) {g : Nat} {c : Array Value} {ty : TypeId} (hh : D.V.heap[g]? = some (.cells c ty)) (h1 : ty ≠ 47) (h2 : ty ≠ 36) : W.heap[g]? = some (.cells c ty) := by
  rw [h g (Array.getElem?_eq_some_iff.1 hh).1 (fun w => ?_)]
  · exact hh
  · rcases w with ⟨k, hk, e⟩ | ⟨k, j, hk, hj, e⟩
    · exact h1 (own_ty (hH.rowE k hk) e hh)
    · exact h2 (own_ty (hH.rowT k hk j hj) e hh)
theorem execBsW4 {o : Oper} {a : Act} {w : World} {x0 x1 x2 x3 : Operand} {z0 z1 z2 z3 : Int} {v0 v1 v2 v3 : Value} (ho : o.op = .buildSlice 45 4 #[(0, x0), (1, x1), (2, x2), (3, x3)]) (h0 : a.eval x0 = .agg (wC z0 v0)) (h1 : a.eval x1 = .agg (wC z1 v1)) (h2 : a.eval x2 = .agg (wC z2 v2)) (h3 : a.eval x3 = .agg (wC z3 v3))
    (s0 : ∃ g n c, v0 = .slice g n c) (s1 : ∃ g n c, v1 = .slice g n c) (s2 : ∃ g n c, v2 = .slice g n c) (s3 : ∃ g n c, v3 = .slice g n c) : (execOp a.eval o).run Try.prog w = .ok (.value (.slice (some ⟨w.heap.size, 0, none⟩) 4 4)) (w.alloc (.cells #[.int .i64 z0, v0, .int .i64 z1, v1, .int .i64 z2, v2, .int .i64 z3, v3] 24)) := by
  obtain ⟨_, _, _, rfl⟩ := s0
  obtain ⟨_, _, _, rfl⟩ := s1
  obtain ⟨_, _, _, rfl⟩ := s2
  obtain ⟨_, _, _, rfl⟩ := s3
  unfold execOp
  simp only [ho, List.map_toArray, List.map_cons, List.map_nil, h0, h1, h2, h3]
  simp [go_sem, wC]
theorem lo4 {P : Nat → Nat → Prop} (h01 : P 0 1) (h02 : P 0 2) (h03 : P 0 3) (h12 : P 1 2) (h13 : P 1 3) (h23 : P 2 3) : ∀ k l, k < l → l < 4 → P k l := fun k l h hl => by
  match k, l, h, hl with
  | 0, 1, _, _ => exact h01
  | 0, 2, _, _ => exact h02
  | 0, 3, _, _ => exact h03
  | 1, 2, _, _ => exact h12
  | 1, 3, _, _ => exact h13
  | 2, 3, _, _ => exact h23
  | k, 0, h, _ => omega
  | k + 1, 1, h, _ => omega
  | k + 2, 2, h, _ => omega
  | k + 3, 3, h, _ => omega
  | k, l + 4, _, hl => omega
/-- The law's apart of four windows in memory of their own. -/
theorem apart4 (U V : World) (g : Nat) (z0 : Int) (e0 : Value) (n0 : Nat) (nu0 : Nat → Int) (tw0 : Nat → Value) (ln0 : Nat → Nat) (tt0 : Nat → Nat → Nat → Nat) (C0 : Nat) (z1 : Int) (e1 : Value) (n1 : Nat) (nu1 : Nat → Int) (tw1 : Nat → Value) (ln1 : Nat → Nat) (tt1 : Nat → Nat → Nat → Nat) (C1 : Nat) (z2 : Int) (e2 : Value) (n2 : Nat) (nu2 : Nat → Int) (tw2 : Nat → Value) (ln2 : Nat → Nat) (tt2 : Nat → Nat → Nat → Nat) (C2 : Nat) (z3 : Int) (e3 : Value) (n3 : Nat) (nu3 : Nat → Int) (tw3 : Nat → Value) (ln3 : Nat → Nat) (tt3 : Nat → Nat → Nat → Nat) (C3 : Nat) (hUV : Below U.heap.size U V) (hg : V.heap[g]? = some (.cells #[.int .i64 z0, e0, .int .i64 z1, e1, .int .i64 z2, e2, .int .i64 z3, e3] 24)) (N0 : NwE C0 V e0 n0 nu0 tw0 ln0 tt0) (N1 : NwE C1 V e1 n1 nu1 tw1 ln1 tt1) (N2 : NwE C2 V e2 n2 nu2 tw2 ln2 tt2) (N3 : NwE C3 V e3 n3 nu3 tw3 ln3 tt3) (U0 : U.heap.size ≤ C0) (U1 : U.heap.size ≤ C1) (U2 : U.heap.size ≤ C2) (U3 : U.heap.size ≤ C3) (L01 : ((∀ b_, e0.ownBlock = some b_ → b_ < C1) ∧ ∀ j_, j_ < n0 → ∀ b_, (tw0 j_).ownBlock = some b_ → b_ < C1)) (L02 : ((∀ b_, e0.ownBlock = some b_ → b_ < C2) ∧ ∀ j_, j_ < n0 → ∀ b_, (tw0 j_).ownBlock = some b_ → b_ < C2)) (L03 : ((∀ b_, e0.ownBlock = some b_ → b_ < C3) ∧ ∀ j_, j_ < n0 → ∀ b_, (tw0 j_).ownBlock = some b_ → b_ < C3)) (L12 : ((∀ b_, e1.ownBlock = some b_ → b_ < C2) ∧ ∀ j_, j_ < n1 → ∀ b_, (tw1 j_).ownBlock = some b_ → b_ < C2)) (L13 : ((∀ b_, e1.ownBlock = some b_ → b_ < C3) ∧ ∀ j_, j_ < n1 → ∀ b_, (tw1 j_).ownBlock = some b_ → b_ < C3)) (L23 : ((∀ b_, e2.ownBlock = some b_ → b_ < C3) ∧ ∀ j_, j_ < n2 → ∀ b_, (tw2 j_).ownBlock = some b_ → b_ < C3)) (H0 : n0 ≤ 60 ∧ ∀ j, j < n0 → ln0 j ≤ 1000000) (H1 : n1 ≤ 60 ∧ ∀ j, j < n1 → ln1 j ≤ 1000000) (H2 : n2 ≤ 60 ∧ ∀ j, j < n2 → ln2 j ≤ 1000000) (H3 : n3 ≤ 60 ∧ ∀ j, j < n3 → ln3 j ≤ 1000000) :
    Calls Try.prog 17 #[.slice (some ⟨g, 0, none⟩) 4 4] V fun e w' => e = .returned (.bool true) ∧ Below U.heap.size U w' ∧
      (∀ (C : Nat) (v : Value) (n : Nat) (nu : Nat → Int) (tw : Nat → Value) (ln : Nat → Nat) (t : Nat → Nat → Nat → Nat), ((∀ b_, e0.ownBlock = some b_ → b_ < C) ∧ ∀ j_, j_ < n0 → ∀ b_, (tw0 j_).ownBlock = some b_ → b_ < C) → ((∀ b_, e1.ownBlock = some b_ → b_ < C) ∧ ∀ j_, j_ < n1 → ∀ b_, (tw1 j_).ownBlock = some b_ → b_ < C) → ((∀ b_, e2.ownBlock = some b_ → b_ < C) ∧ ∀ j_, j_ < n2 → ∀ b_, (tw2 j_).ownBlock = some b_ → b_ < C) → ((∀ b_, e3.ownBlock = some b_ → b_ < C) ∧ ∀ j_, j_ < n3 → ∀ b_, (tw3 j_).ownBlock = some b_ → b_ < C) → NwE C V v n nu tw ln t → NwE C w' v n nu tw ln t) ∧
      ∀ (g : Nat) (c : Array Value) (ty : TypeId), ty ≠ 47 → ty ≠ 36 → V.heap[g]? = some (.cells c ty) → w'.heap[g]? = some (.cells c ty) := by
  obtain ⟨D, hD⟩ : ∃ D : ApD, D = ⟨V, U.heap.size, g, #[.int .i64 z0, e0, .int .i64 z1, e1, .int .i64 z2, e2, .int .i64 z3, e3], s4 e0 e1 e2 e3, s4 n0 n1 n2 n3, s4 nu0 nu1 nu2 nu3, s4 tw0 tw1 tw2 tw3, s4 ln0 ln1 ln2 ln3, s4 tt0 tt1 tt2 tt3⟩ := ⟨_, rfl⟩
  have hH : ApH D := by
    subst hD
    exact apH_of (C := s4 C0 C1 C2 C3) hUV.size hg (all4 rfl rfl rfl rfl) (all4 N0 N1 N2 N3) (all4 U0 U1 U2 U3) (lo4 L01 L02 L03 L12 L13 L23) (all4 H0 H1 H2 H3)
  have h := apart16 U D hH (by rw [hD]) (by rw [hD]; exact hUV)
  have hV : D.V = V := by rw [hD]
  have hBU : D.B = U.heap.size := by rw [hD]
  have hgw : D.gw = g := by rw [hD]
  rw [hV, hgw] at h
  refine Calls.mono h fun e w' hh => ?_
  obtain ⟨h1, h2, h3⟩ := hh
  refine ⟨h1, hUV.trans (by rw [← hBU]; exact h2), fun C v n nu tw ln t l0 l1 l2 l3 hN => h3.nwe (gd_lt ?_) (by rw [hV]; exact hN), fun k c ty q1 q2 hh => h3.heap hH (by rw [hV]; exact hh) q1 q2⟩
  subst hD
  exact all4 l0 l1 l2 l3
/-- What lies while the copied window and the tags are written over: c's row of epochs, its lists, the tags' row, and what must stay: windows of a higher base, blocks of windows. -/
structure KS (V : World) (Uz : Nat) (gc cc n : Nat) (uw : Nat → Value) (ln : Nat → Nat) (gf cf m : Nat) (W : World) : Prop where
  ep : ∃ nu, W.ownsRow V.heap.size 47 2 (.slice (some ⟨gc, 0, none⟩) n cc) n (epV nu uw n)
  li : ∀ j, j < n → ∃ g c s, uw j = .slice (some ⟨g, 0, none⟩) (ln j) c ∧ g < Uz ∧ W.ownsRow V.heap.size 36 16 (.slice (some ⟨g, 0, none⟩) (ln j) c) (ln j) (tgV s (ln j))
  dis : ∀ i j, i < n → j < n → i ≠ j → ∀ b, (uw i).ownBlock = some b → (uw j).ownBlock ≠ some b
  tg : ∃ s, W.ownsRow V.heap.size 36 16 (.slice (some ⟨gf, 0, none⟩) m cf) m (tgV s m)
  tl : ∀ j, j < n → (uw j).ownBlock ≠ some gf
  gcU : gc < Uz
  gfU : gf < Uz
section
variable {V W W' : World} {Uz gc cc n gf cf m : Nat} {uw : Nat → Value} {ln : Nat → Nat}
theorem KS.on (h : KS V Uz gc cc n uw ln gf cf m W) (hb : Below W.heap.size W W') : KS V Uz gc cc n uw ln gf cf m W' := by
  obtain ⟨⟨nu, q1⟩, q2, q3, ⟨s, q4⟩, q5, q6, q7⟩ := h
  exact ⟨⟨nu, ownE_below q1 hb⟩, fun j hj => by obtain ⟨g, c, s, e1, e2, e3⟩ := q2 j hj; exact ⟨g, c, s, e1, e2, ownE_below e3 hb⟩, q3, ⟨s, ownE_below q4 hb⟩, q5, q6, q7⟩
theorem KS.num (h : KS V Uz gc cc n uw ln gf cf m W) {k : Nat} (hk : k < n) (z : Int) : KS V Uz gc cc n uw ln gf cf m (W.setCell ⟨gc, 0 + k * 2 + 0, none⟩ (.int .i64 z)) := by
  obtain ⟨⟨nu, q1⟩, q2, q3, ⟨s, q4⟩, q5, q6, q7⟩ := h
  obtain ⟨cur, hg⟩ : ∃ cur, W.heap[gc]? = some (.cells cur 47) := by
    rcases q1.2 with ⟨e, _⟩ | ⟨g', cap, cur, e, hB, hg, _⟩
    · cases e
    · obtain ⟨rfl, rfl⟩ := slc_inj e
      exact ⟨cur, hg⟩
  exact ⟨⟨_, own_num q1 hk⟩, fun j hj => by obtain ⟨g, c, s, e1, e2, e3⟩ := q2 j hj; exact ⟨g, c, s, e1, e2, ownG_T e3 hg (by decide) grown_cell⟩, q3, ⟨s, ownG_T q4 hg (by decide) grown_cell⟩, q5, q6, q7⟩
theorem KS.tag (h : KS V Uz gc cc n uw ln gf cf m W) {k g c : Nat} {s : Nat → Nat → Nat} (hk : k < n) (e : uw k = .slice (some ⟨g, 0, none⟩) (ln k) c) (own : W'.ownsRow V.heap.size 36 16 (.slice (some ⟨g, 0, none⟩) (ln k) c) (ln k) (tgV s (ln k))) (gr : W.grownBy W' (some g)) : KS V Uz gc cc n uw ln gf cf m W' := by
  have hbk : (uw k).ownBlock = some g := by rw [e]; rfl
  obtain ⟨d, u, s0, e0, e2, e3⟩ := h.li k hk
  obtain ⟨rfl, rfl⟩ := slc_inj (e.symm.trans e0)
  obtain ⟨nu, q1⟩ := h.ep
  obtain ⟨s4, q4⟩ := h.tg
  refine ⟨⟨nu, ownE_over q1 e3 gr (by decide)⟩, fun j hj => ?_, h.dis, ⟨s4, ownG q4 gr (fun b hb w => h.tl k hk (by rw [hbk, w]; exact hb.symm ▸ rfl))⟩, h.tl, h.gcU, h.gfU⟩
  by_cases q : j = k
  · subst q
    exact ⟨g, c, s, e, e2, own⟩
  · obtain ⟨g2, c2, s2, f1, f2, f3⟩ := h.li j hj
    exact ⟨g2, c2, s2, f1, f2, ownG f3 gr (fun b hb w => h.dis j k hj hk q b (by rw [f1]; exact hb) (by rw [hbk]; exact w))⟩
theorem KS.mark (h : KS V Uz gc cc n uw ln gf cf m W) {s : Nat → Nat → Nat} (own : W'.ownsRow V.heap.size 36 16 (.slice (some ⟨gf, 0, none⟩) m cf) m (tgV s m)) (gr : W.grownBy W' (some gf)) : KS V Uz gc cc n uw ln gf cf m W' := by
  obtain ⟨nu, q1⟩ := h.ep
  obtain ⟨s4, q4⟩ := h.tg
  exact ⟨⟨nu, ownE_over q1 q4 gr (by decide)⟩, fun j hj => by obtain ⟨g2, c2, s2, f1, f2, f3⟩ := h.li j hj; exact ⟨g2, c2, s2, f1, f2, ownG f3 gr (fun b hb w => h.tl j hj (by rw [f1, w]; exact hb))⟩, h.dis, ⟨s, own⟩, h.tl, h.gcU, h.gfU⟩
end
/-- A window of a higher base stays. -/
theorem NwE.stay {W W' : World} {C n g Uz : Nat} {v : Value} {nu : Nat → Int} {tw : Nat → Value} {ln : Nat → Nat} {t : Nat → Nat → Nat → Nat} (h : NwE C W v n nu tw ln t) (gr : W.grownBy W' (some g)) (hg : g < Uz) (hC : Uz ≤ C) : NwE C W' v n nu tw ln t :=
  ⟨ownG h.row gr (fun b hb w => by have := (h.row.lt b hb).1; have := Option.some.inj w; omega), fun j hj => ownG (h.lists j hj) gr (fun b hb w => by have := ((h.lists j hj).lt b hb).1; have := Option.some.inj w; omega), h.dis, h.byt, h.nums⟩
end Go.Proofs.Ytijibdapooalcab.Win
