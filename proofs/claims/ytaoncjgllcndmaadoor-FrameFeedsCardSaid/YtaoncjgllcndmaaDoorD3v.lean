import Derived.Test.YtaoncjgllcndmaaDoorD3r
namespace Go.Proofs.YtaoncjgllcndmaaDoor.Frm
open Go.RowKit Gf8 Aes By8 Cel
/- Lists that are marked and grown apart (the law's apart): what goes through it. -/

/-- append of bytes, and the room that it leaves. -/
theorem wpList_appK {ops : Array Oper} {rest : List Oper} {o : Oper} {a : Act} {W : World} {Q : Exit → Act → World → Prop} {B n m g c : Nat} {v : Value} {p : Nat → Nat} (hgd : o.guard = none) (s x : Operand)
    (ho : o.op = .call { callee := .builtin .append, args := #[s, x], argTypes := #[30, 30] })
    (hs : a.eval s = v) (hx : a.eval x = .slice (some ⟨g, 0, none⟩) m c) (hown : W.ownsRow B 5 1 v n (bytesL n p)) (hsrc : ∀ j, j < m → W.cell? ⟨g, j, none⟩ = some (.int .u8 (p (n + j))))
    (hbig : n + m ≤ 200000000000000) (hB : B ≤ W.heap.size)
    (h : ∀ v' W', W'.ownsRow B 5 1 v' (n + m) (bytesL (n + m) p) → ((v'.ownBlock = v.ownBlock ∧ W.grownBy W' v.ownBlock ∧ capV v' = capV v) ∨ (v'.ownBlock = some W.heap.size ∧ W.grownBy W' none)) → wpList Tryd.prog ops Q rest (a.put o.dst v') W') : wpList Tryd.prog ops Q (o :: rest) a W :=
  wpList_plain hgd fun K hK => by
    obtain ⟨i, h1, h2, h3, h4⟩ := info5
    obtain ⟨v', w', hr, q1, q2⟩ := run_append_ownR (P := Tryd.prog) W B 30 o.type 5 i (.int .u8 0) Tryd.underlying30 h1 h2 h3 h4 rfl v n (bytesL n p) hown ⟨g, 0, none⟩ m c (bytesL m fun j => p (n + j)) (bytesL_len _ _) (by
      intro j u hu
      have hj : j < m := by have := (List.getElem?_eq_some_iff.1 hu).1; rw [bytesL_len] at this; exact this
      rw [Addr.add_mid, Nat.zero_add, hsrc j hj]
      rw [bytesL_at m _ hj] at hu
      exact hu) (bytesL_one _ _) hbig hB
    rw [bytesL_app] at q1
    unfold Oper.wp execOp
    simp only [ho, resolve, invoke, builtin, Sem.run_bind, Sem.run_pure, Result.andThen_ok, List.map_toArray, List.map_cons, List.map_nil, hs, hx, hr]
    exact hK _ _ (h v' w' q1 q2)
/-- Row t and what was appended to it. -/
def gM (f : Nat → Nat) (n z : Nat) : Nat → Nat := fun l => if l < n then f l else z
/-- An element of a list of lists of one's own is set. -/
theorem ownL_set {W : World} {B n g cap k : Nat} {x : Nat → Value} {v : Value} (h : W.ownsRow B 30 1 (.slice (some ⟨g, 0, none⟩) n cap) n (xsL x 0 n)) (hk : k < n) : (W.setCell ⟨g, k, none⟩ v).ownsRow B 30 1 (.slice (some ⟨g, 0, none⟩) n cap) n (xsL (updX x k v) 0 n) := by
  refine ⟨by rw [xsL_len, Nat.mul_one], ?_⟩
  rcases h.2 with ⟨e, _⟩ | ⟨g', cap', cur, e, hB, hg, hnc, hcm, hcs, ht⟩
  · cases e
  · injection e with e1 _ e3
    injection e1 with e1
    injection e1 with e1 _ _
    subst e1
    subst e3
    refine Or.inr ⟨g, cap, cur.setIfInBounds k v, rfl, hB, heap4 _ hg, hnc, hcm, by rw [Array.size_setIfInBounds]; exact hcs, ?_⟩
    rw [Nat.mul_one] at ht hcs ⊢
    apply List.ext_getElem?
    intro l
    by_cases hl : l < n
    · rw [List.getElem?_take, if_pos hl, xsL_at _ _ hl, Array.getElem?_toList, Array.getElem?_setIfInBounds]
      have h0 : cur[l]? = some (x (0 + l)) := by
        have : (List.take n cur.toList)[l]? = some (x (0 + l)) := by rw [ht]; exact xsL_at _ _ hl
        rw [List.getElem?_take, if_pos hl, Array.getElem?_toList] at this
        exact this
      by_cases e : k = l
      · subst e
        rw [if_pos rfl, if_pos (by omega), Nat.zero_add, updX_at]
      · rw [if_neg e, h0]
        unfold updX
        rw [if_neg (by omega)]
    · rw [List.getElem?_take, if_neg hl, List.getElem?_eq_none (by rw [xsL_len]; omega)]
/-- m lists of N bytes each; what each has been grown to. -/
structure ApS (B m N : Nat) (x : Nat → Value) (ff : Nat → Nat → Nat) (zz : Nat → Nat) (gv : Nat → Value) (gl : Nat → Nat) (W : World) : Prop where
  fam : Fam B m x (fun _ => N) ff W
  grown : ∀ t, t < m → W.ownsRow B 5 1 (gv t) (gl t) (bytesL (gl t) (gM (ff t) N (zz t)))
  le : ∀ t, t < m → N ≤ gl t
  at' : ∀ t, t < m → (gv t).ownBlock = (x t).ownBlock ∨ ∀ s, s < m → Dis (gv t) (x s)
  dis : ∀ s t, s < m → t < m → s ≠ t → Dis (gv s) (gv t)
theorem ApS.begin {B m N : Nat} {x : Nat → Value} {ff : Nat → Nat → Nat} {zz : Nat → Nat} {W : World} (h : Fam B m x (fun _ => N) ff W) : ApS B m N x ff zz x (fun _ => N) W :=
  ⟨h, fun t ht => by
    have e : bytesL N (gM (ff t) N (zz t)) = bytesL N (ff t) := bytesL_congr fun l hl => if_pos hl
    rw [e]
    exact h.rows t ht, fun _ _ => Nat.le_refl _, fun _ _ => Or.inl rfl, h.dis⟩
theorem ApS.on {B m N : Nat} {x : Nat → Value} {ff : Nat → Nat → Nat} {zz : Nat → Nat} {gv : Nat → Value} {gl : Nat → Nat} {W W' : World} (h : ApS B m N x ff zz gv gl W) (hb : Below W.heap.size W W') : ApS B m N x ff zz gv gl W' :=
  ⟨h.fam.on hb, fun t ht => ownsRow_below (h.grown t ht) hb, h.le, h.at', h.dis⟩
/-- A cell of a list of lists is set: the bytes stay. -/
theorem ApS.cell {B m N : Nat} {x : Nat → Value} {ff : Nat → Nat → Nat} {zz : Nat → Nat} {gv : Nat → Value} {gl : Nat → Nat} {W : World} {b k : Nat} {c : Array Value} {u : Value} (h : ApS B m N x ff zz gv gl W) (hb : W.heap[b]? = some (.cells c 30)) : ApS B m N x ff zz gv gl (W.setCell ⟨b, k, none⟩ u) :=
  ⟨⟨fun t ht => own_stays (h.fam.rows t ht) hb (fun e => own_ne (h.fam.rows t ht) hb (by decide) e.symm), h.fam.dis⟩, fun t ht => own_stays (h.grown t ht) hb (fun e => own_ne (h.grown t ht) hb (by decide) e.symm), h.le, h.at', h.dis⟩
/-- One of them has been grown. -/
theorem ApS.grow {B m N : Nat} {x : Nat → Value} {ff : Nat → Nat → Nat} {zz : Nat → Nat} {gv : Nat → Value} {gl : Nat → Nat} {W W' : World} (h : ApS B m N x ff zz gv gl W) {i k : Nat} (hi : i < m) {v' : Value}
    (hv : W'.ownsRow B 5 1 v' (gl i + k) (bytesL (gl i + k) (gM (ff i) N (zz i)))) (hp : (v'.ownBlock = (gv i).ownBlock ∧ W.grownBy W' (gv i).ownBlock ∧ capV v' = capV (gv i)) ∨ (v'.ownBlock = some W.heap.size ∧ W.grownBy W' Option.none)) :
    ApS B m N x ff zz (updX gv i v') (fun t => if t = i then gl i + k else gl t) W' := by
  have hle := h.le i hi
  rcases hp with ⟨e, hg, hc⟩ | ⟨e, hg⟩
  · have keep : ∀ t, t < m → t ≠ i → W'.ownsRow B 5 1 (gv t) (gl t) (bytesL (gl t) (gM (ff t) N (zz t))) := fun t ht hne => by
      refine (h.grown t ht).kept hg ?_
      cases hq : (gv t).ownBlock with
      | none => exact Or.inl rfl
      | some b => exact Or.inr (fun q => h.dis t i ht hi hne b hq q.symm)
    refine ⟨⟨fun t ht => ?_, h.fam.dis⟩, fun t ht => ?_, fun t ht => ?_, fun t ht => ?_, fun s t hs ht hst => ?_⟩
    · cases hq : (x t).ownBlock with
      | none => exact (h.fam.rows t ht).kept hg (.inl hq)
      | some b =>
        by_cases hub : (gv i).ownBlock = some b
        · have et : t = i := by
            rcases h.at' i hi with pl | pl
            · rw [pl] at hub
              cases Nat.decEq t i with
              | isTrue h1 => exact h1
              | isFalse h1 => exact absurd hub (h.fam.dis t i ht hi h1 b hq)
            · exact absurd hq (pl t ht b hub)
          subst et
          obtain ⟨c1, g1, s1, v1, B1, n1, m1, t1⟩ := own_cap (h.fam.rows t ht) hq
          obtain ⟨c2, g2, s2, v2, _⟩ := own_cap (h.grown t ht) hub
          obtain ⟨c3, g3, s3, v3, _, n3, m3, t3⟩ := own_cap hv (by rw [e]; exact hub)
          have ecap : capV (x t) = capV v' := by
            rw [g1] at g2
            have : c1 = c2 := by simpa using g2
            rw [hc, ← s1, ← s2, this]
          refine ⟨by rw [bytesL_len, Nat.mul_one], .inr ⟨b, capV (x t), c3, v1, B1, g3, n1, m1, by rw [Nat.mul_one, s3, ecap], ?_⟩⟩
          rw [Nat.mul_one]
          have h4 : c3.toList.take N = (c3.toList.take (gl t + k)).take N := by rw [List.take_take, Nat.min_eq_left (by omega)]
          rw [h4, t3]
          unfold bytesL
          rw [← List.map_take, List.take_range, Nat.min_eq_left (by omega)]
          apply List.map_congr_left
          intro l hl
          have := List.mem_range.1 hl
          unfold gM
          rw [if_pos this]
        · exact (h.fam.rows t ht).kept hg (.inr fun q => hub (by rw [← q]; exact hq))
    · by_cases et : t = i
      · subst et
        rw [updX_at]
        simp only [if_true]
        exact hv
      · unfold updX
        simp only [if_neg et]
        exact keep t ht et
    · by_cases et : t = i
      · subst et; simp only [if_true]; omega
      · simp only [if_neg et]; exact h.le t ht
    · by_cases et : t = i
      · subst et
        rw [updX_at]
        rcases h.at' t ht with pl | pl
        · exact .inl (e.trans pl)
        · exact .inr fun s hs b hb => pl s hs b (by rw [← e]; exact hb)
      · unfold updX
        simp only [if_neg et]
        exact h.at' t ht
    · unfold updX
      by_cases e1 : s = i
      · have e2 : t ≠ i := fun q => hst (e1.trans q.symm)
        simp only [if_pos e1, if_neg e2]
        intro b hb
        exact h.dis i t hi ht (fun q => e2 q.symm) b (by rw [← e]; exact hb)
      · by_cases e2 : t = i
        · simp only [if_neg e1, if_pos e2]
          intro b hb hq
          exact h.dis s i hs hi e1 b hb (by rw [← e]; exact hq)
        · simp only [if_neg e1, if_neg e2]
          exact h.dis s t hs ht hst
  · have old : ∀ {v : Value} {n : Nat} {xs : List Value}, W.ownsRow B 5 1 v n xs → W'.ownsRow B 5 1 v n xs := fun {v} {n} {xs} hw => hw.kept hg (by cases v.ownBlock <;> simp)
    have new : ∀ {v : Value} {n : Nat} {xs : List Value}, W.ownsRow B 5 1 v n xs → Dis v' v := fun {v} {n} {xs} hw b hb q => by
      rw [e] at hb
      have := Option.some.inj hb
      have := (hw.lt b q).2
      omega
    refine ⟨⟨fun t ht => old (h.fam.rows t ht), h.fam.dis⟩, fun t ht => ?_, fun t ht => ?_, fun t ht => ?_, fun s t hs ht hst => ?_⟩
    · by_cases et : t = i
      · subst et
        rw [updX_at]
        simp only [if_true]
        exact hv
      · unfold updX
        simp only [if_neg et]
        exact old (h.grown t ht)
    · by_cases et : t = i
      · subst et; simp only [if_true]; omega
      · simp only [if_neg et]; exact h.le t ht
    · by_cases et : t = i
      · subst et
        rw [updX_at]
        exact .inr fun s hs => new (h.fam.rows s hs)
      · unfold updX
        simp only [if_neg et]
        exact h.at' t ht
    · unfold updX
      by_cases e1 : s = i
      · have e2 : t ≠ i := fun q => hst (e1.trans q.symm)
        simp only [if_pos e1, if_neg e2]
        exact new (h.grown t ht)
      · by_cases e2 : t = i
        · simp only [if_neg e1, if_pos e2]
          exact (new (h.grown s hs)).symm
        · simp only [if_neg e1, if_neg e2]
          exact h.dis s t hs ht hst
/-- One byte of a list is set, ahead of all growing. -/
theorem famSet {B m : Nat} {x : Nat → Value} {nn : Nat → Nat} {ff : Nat → Nat → Nat} {W : World} (h : Fam B m x nn ff W) {t k g cap z : Nat} (ht : t < m) (hx : x t = .slice (some ⟨g, 0, none⟩) (nn t) cap) :
    Fam B m x nn (fun s => if s = t then (fun l => if l = k then z else ff t l) else ff s) (W.setCell ⟨g, k, none⟩ (.int .u8 (z : Int))) := by
  have own := h.rows t ht
  obtain ⟨cur, hg⟩ := own_type own (k := g) (by rw [hx]; rfl)
  refine ⟨fun s hs => ?_, h.dis⟩
  by_cases e : s = t
  · subst e
    simp only [if_true]
    rw [hx] at own ⊢
    exact own_set (m := k) z own
  · simp only [if_neg e]
    exact own_stays (k := k) (u := .int .u8 (z : Int)) (h.rows s hs) hg (fun q => h.dis t s ht hs (fun z => e z.symm) g (by rw [hx]; rfl) q)
end Go.Proofs.YtaoncjgllcndmaaDoor.Frm

namespace Go.Proofs.YtaoncjgllcndmaaDoor.Frm
open Go.RowKit Gf8 Aes By8 Cel
/- What goes through the law's apart. -/

/-- The blocks of m lists. -/
def Gx (m : Nat) (x : Nat → Value) (k : Nat) : Prop := ∃ t, t < m ∧ (x t).ownBlock = some k
/-- All lists ahead of i are marked, and list i up to byte k. -/
def mkA (f : Nat → Nat → Nat) (i k t : Nat) : Nat → Nat := fun l => if t < i ∨ (t = i ∧ l < k) then t % 256 else f t l
theorem run_mkL (n : Nat) (hn : n ≤ 1000000) (W : World) : (Instr.makeSlice 24 (.int .i64 (n : Int)) (.int .i64 (n : Int))).run Tryd.prog W = .ok (.slice (some ⟨W.heap.size, 0, none⟩) n n) (W.alloc (.cells (madeCells #[.slice none 0 0] n) 30)) := by
  obtain ⟨i, h1, h2, h3, h4⟩ := infoB
  have h := run_make (P := Tryd.prog) W 24 30 i (.slice none 0 0) Tryd.underlying24 h1 h2 .i64 .i64 (n : Int) (n : Int) (by omega) (by omega) (by rw [h4]; omega) (by omega)
  rw [h3, Int.toNat_natCast, Nat.mul_one] at h
  exact h
theorem famCg {B m : Nat} {x : Nat → Value} {nn : Nat → Nat} {ff gg : Nat → Nat → Nat} {W : World} (h : Fam B m x nn ff W) (e : ∀ t, t < m → ∀ l, l < nn t → ff t l = gg t l) : Fam B m x nn gg W :=
  ⟨fun t ht => by have h2 := h.rows t ht; rw [bytesL_congr (e t ht)] at h2; exact h2, h.dis⟩
theorem ApS.cg {B m N : Nat} {x : Nat → Value} {ff : Nat → Nat → Nat} {zz : Nat → Nat} {gv : Nat → Value} {gl gl' : Nat → Nat} {W : World} (h : ApS B m N x ff zz gv gl W) (e : ∀ t, t < m → gl t = gl' t) : ApS B m N x ff zz gv gl' W :=
  ⟨h.fam, fun t ht => by rw [← e t ht]; exact h.grown t ht, fun t ht => by rw [← e t ht]; exact h.le t ht, h.at', h.dis⟩
structure MoS (B m N : Nat) (x gv : Nat → Value) (gl : Nat → Nat) (mo : Nat → Value) (R : Nat) (V W : World) : Prop where
  ap : ApS B m N x (fun t _ => t % 256) (fun t => (t + 100) % 256) gv gl W
  sv : Saved (Gx m x) V W
  row : ∃ c, W.heap[R]? = some (.cells c 30) ∧ c.size = m ∧ ∀ t, t < m → c[t]? = some (mo t)
  new : V.heap.size ≤ R
  pl : ∀ t, t < m → ∀ k, (gv t).ownBlock = some k → V.heap.size ≤ k ∨ Gx m x k
section
variable {B m N : Nat} {x gv : Nat → Value} {gl : Nat → Nat} {mo : Nat → Value} {R : Nat} {V W W' : World}
theorem MoS.cg {gl' : Nat → Nat} {mo' : Nat → Value} (h : MoS B m N x gv gl mo R V W) (e : ∀ t, t < m → gl t = gl' t) (e' : ∀ t, t < m → mo t = mo' t) : MoS B m N x gv gl' mo' R V W :=
  ⟨h.ap.cg e, h.sv, by obtain ⟨c, h1, h2, h3⟩ := h.row; exact ⟨c, h1, h2, fun t ht => by rw [← e' t ht]; exact h3 t ht⟩, h.new, h.pl⟩
theorem MoS.on (h : MoS B m N x gv gl mo R V W) (hb : Below W.heap.size W W') : MoS B m N x gv gl mo R V W' :=
  ⟨h.ap.on hb, h.sv.below hb h.sv.size, by obtain ⟨c, h1, h2, h3⟩ := h.row; exact ⟨c, by rw [hb.block _ (Array.getElem?_eq_some_iff.1 h1).1]; exact h1, h2, h3⟩, h.new, h.pl⟩
theorem MoS.grow (h : MoS B m N x gv gl mo R V W) {i k : Nat} (hi : i < m) {v' : Value}
    (hv : W'.ownsRow B 5 1 v' (gl i + k) (bytesL (gl i + k) (gM (fun _ => i % 256) N ((i + 100) % 256)))) (hp : (v'.ownBlock = (gv i).ownBlock ∧ W.grownBy W' (gv i).ownBlock ∧ capV v' = capV (gv i)) ∨ (v'.ownBlock = some W.heap.size ∧ W.grownBy W' Option.none)) :
    MoS B m N x (updX gv i v') (fun t => if t = i then gl i + k else gl t) mo R V W' := by
  refine ⟨h.ap.grow hi hv hp, ?_, ?_, h.new, fun t ht b hb => ?_⟩
  · rcases hp with ⟨_, hg, _⟩ | ⟨_, hg⟩
    · exact h.sv.grown hg (h.pl i hi)
    · exact h.sv.grown hg (fun k e => by cases e)
  · obtain ⟨c, h1, h2, h3⟩ := h.row
    refine ⟨c, ?_, h2, h3⟩
    rcases hp with ⟨_, hg, _⟩ | ⟨_, hg⟩
    · rw [hg.block _ (Array.getElem?_eq_some_iff.1 h1).1 (own_ne (h.ap.grown i hi) h1 (by decide))]
      exact h1
    · rw [hg.block _ (Array.getElem?_eq_some_iff.1 h1).1 (by simp)]
      exact h1
  · by_cases e : t = i
    · subst e
      rw [updX_at] at hb
      rcases hp with ⟨e, _⟩ | ⟨e, _⟩
      · exact h.pl t ht b (by rw [← e]; exact hb)
      · rw [e] at hb
        have := Option.some.inj hb
        have := h.sv.size
        exact Or.inl (by omega)
    · unfold updX at hb
      rw [if_neg e] at hb
      exact h.pl t ht b hb
/-- A list that has been grown is laid into the list of lists. -/
theorem MoS.put (h : MoS B m N x gv gl mo R V W) (i : Nat) (u : Value) : MoS B m N x gv gl (updX mo i u) R V (W.setCell ⟨R, i, none⟩ u) := by
  obtain ⟨c, h1, h2, h3⟩ := h.row
  refine ⟨h.ap.cell h1, h.sv.cell _ (Or.inl h.new), ⟨c.setIfInBounds i u, heap4 _ h1, by rw [Array.size_setIfInBounds]; exact h2, fun t ht => ?_⟩, h.new, h.pl⟩
  rw [Array.getElem?_setIfInBounds]
  unfold updX
  by_cases e : i = t
  · subst e
    rw [if_pos rfl, if_pos rfl, if_pos (by omega)]
  · rw [if_neg e, if_neg (fun q => e q.symm)]
    exact h3 t ht
theorem MoS.at (h : MoS B m N x gv gl mo R V W) {i : Nat} (hi : i < m) : W.cell? ⟨R, i, none⟩ = some (mo i) ∧ W.frozen? ⟨R, i, none⟩ = false := by
  obtain ⟨c, h1, h2, h3⟩ := h.row
  exact ⟨by rw [cell_of_row _ _ _ _ _ _ h1]; exact h3 i hi, frozen4 h1⟩
end
/-- The list of lists lies as it lay. -/
theorem lists_at {W V : World} {A B m N : Nat} {la : Option Addr} {lc : Nat} {x : Nat → Value} {f : Nat → Nat → Nat} (hown : V.ownsRow A 30 1 (.slice la m lc) m (xsL x 0 m)) (hf : Fam B m x (fun _ => N) f V) (sv : Saved (Gx m x) V W) {t : Nat} (ht : t < m) : ∃ g, la = some ⟨g, 0, none⟩ ∧ W.cell? ⟨g, t, none⟩ = some (x t) := by
  obtain ⟨g, cap, e, _, hg, hcell⟩ := ownL_cells hown (by omega)
  injection e with e1 _ _
  refine ⟨g, e1, ?_⟩
  obtain ⟨c, hc⟩ := own_typeL hown (k := g) (by rw [e1]; rfl)
  have hW : W.heap[g]? = some (.cells c 30) := by
    rw [sv.block g hg ?_]
    · exact hc
    · rintro ⟨s, hs, q⟩
      exact own_ne (hf.rows s hs) hc (by decide) q.symm
  have := hcell t ht
  rw [cell_of_row _ _ _ _ _ _ hc, Nat.zero_add] at this
  rw [cell_of_row _ _ _ _ _ _ hW]
  exact this
end Go.Proofs.YtaoncjgllcndmaaDoor.Frm
