import Derived.Test.YtldhhfkplongiaaN9a
namespace Go.Proofs.Ytldhhfkplongiaa.Prm
open Go.RowKit Gf8 Aes By8 Cel Cf Tap Drw
/- PermKeeps: what is answered, by its number; append to one of the rows. -/

/-- The nine answers: their lengths, their numbers. -/
def lenC (f g : Nat → Int) (n m : Nat) (c : Nat) : Nat :=
  if c = 0 then zl (coE f n g m) n else if c = 1 then zl (pE f n) n else if c = 2 then zl (apE f n m) n else if c = 3 then zl (pE f n) (n - 1) else if c = 4 then zl (pE f n) n
  else if c = 5 then zl (unE g m) m else if c = 6 then zl (frE ((m + 1 : Nat) : Int) g m) (((m + 1 : Nat) : Int)).toNat else if c = 7 then (((n % 500 : Nat) : Int)).toNat else ((((n % 500 : Nat) : Int)) - 1).toNat
def funC (f g : Nat → Int) (n m : Nat) (c : Nat) : Nat → Int :=
  if c = 0 then (fun j => g (f j).toNat) else if c = 1 then (fun j => (posN (gN f) j n : Int)) else if c = 2 then (fun j => g (f j).toNat) else if c = 3 then (fun j => (drD n (gN f) j : Int)) else if c = 4 then (fun j => (rkD (gN f) n j : Int))
  else if c = 5 then (fun j => (unr (gN g) j : Int)) else if c = 6 then (fun j => (frA (((m + 1 : Nat) : Int)).toNat (gN g) m j : Int)) else if c = 7 then (fun j => (j : Int)) else (fun j => ((n % 500 : Nat) : Int) - (j : Int))
def nnK (f g : Nat → Int) (n m : Nat) (t : Nat) : Nat := if t = 0 then n + 2 else if t = 1 then m + 2 else lenC f g n m ((t - 2) % 9)
def ffK (f g : Nat → Int) (n m : Nat) (t : Nat) : Nat → Int := if t = 0 then catI n f (fun j => if j = 0 then -77 else -78) else if t = 1 then catI m g (fun j => if j = 0 then -79 else -80) else funC f g n m ((t - 2) % 9)
theorem nnK_at {f g : Nat → Int} {n m i c : Nat} (hc : c < 9) : nnK f g n m (2 + 9 * i + c) = lenC f g n m c := by
  unfold nnK
  rw [if_neg (by omega), if_neg (by omega), show (2 + 9 * i + c - 2) % 9 = c by omega]
theorem ffK_at {f g : Nat → Int} {n m i c : Nat} (hc : c < 9) : ffK f g n m (2 + 9 * i + c) = funC f g n m c := by
  unfold ffK
  rw [if_neg (by omega), if_neg (by omega), show (2 + 9 * i + c - 2) % 9 = c by omega]
theorem nnK_like {f g : Nat → Int} {n m s t : Nat} (hs : 2 ≤ s) (ht : 2 ≤ t) (e : (s - 2) % 9 = (t - 2) % 9) : nnK f g n m s = nnK f g n m t := by
  unfold nnK
  rw [if_neg (by omega), if_neg (by omega), if_neg (by omega), if_neg (by omega), e]
theorem ffK_like {f g : Nat → Int} {n m s t : Nat} (hs : 2 ≤ s) (ht : 2 ≤ t) (e : (s - 2) % 9 = (t - 2) % 9) : ffK f g n m s = ffK f g n m t := by
  unfold ffK
  rw [if_neg (by omega), if_neg (by omega), if_neg (by omega), if_neg (by omega), e]
theorem lenC_le {f g : Nat → Int} {n m c : Nat} (hn : n ≤ 17592186043904) (hm : m ≤ 17592186043904) : lenC f g n m c ≤ 17592186044000 := by
  have z : ∀ E L, zl E L ≤ L := fun E L => by unfold zl; by_cases h : E = 0 <;> simp [h]
  unfold lenC
  repeat' split
  · exact Nat.le_trans (z _ _) (by omega)
  · exact Nat.le_trans (z _ _) (by omega)
  · exact Nat.le_trans (z _ _) (by omega)
  · exact Nat.le_trans (z _ _) (by omega)
  · exact Nat.le_trans (z _ _) (by omega)
  · exact Nat.le_trans (z _ _) (by omega)
  · exact Nat.le_trans (z _ _) (by omega)
  · omega
  · omega
theorem nnK_le {f g : Nat → Int} {n m t : Nat} (hn : n ≤ 17592186043904) (hm : m ≤ 17592186043904) : nnK f g n m t ≤ 17592186044000 := by
  unfold nnK
  repeat' split
  · omega
  · omega
  · exact lenC_le hn hm
/-- append of one: within the room, or in new memory. -/
theorem run_app2I (W : World) (ty : TypeId) (B n g : Nat) (v : Value) (f : Nat → Int) (z0 : Int) (hown : W.ownsRow B 3 1 v n (intsL n f)) (hg : W.heap[g]? = some (.cells #[.int .i64 z0] 3)) (hn : n + 1 ≤ 17592186044416) (hB : B ≤ W.heap.size) :
    ∃ v' W', (Builtin.append_ #[22, 22] ty #[v, .slice (some ⟨g, 0, none⟩) 1 1]).run Try.prog W = .ok v' W' ∧ (∃ q, W'.ownsRow B 3 1 v' (n + 1) (intsL (n + 1) q) ∧ ∀ j, j < n → q j = f j) ∧
      ((∃ b c, v = .slice (some ⟨b, 0, none⟩) n c ∧ v' = .slice (some ⟨b, 0, none⟩) (n + 1) c ∧ W.grownBy W' (some b)) ∨ (Below W.heap.size W W' ∧ ∀ k, v'.ownBlock = some k → W.heap.size ≤ k)) := by
  obtain ⟨i, i1, i2, i3, i4⟩ := infoI
  have hl : ([.int .i64 z0] : List Value).length = 1 * i.size := by rw [i3]; rfl
  have hnews : ∀ j u, ([.int .i64 z0] : List Value)[j]? = some u → W.cell? ((⟨g, 0, none⟩ : Addr).add j) = some u := fun j u hu => by
    rw [Go.WideShapes.add_plain, cell_of_row _ _ _ _ _ _ hg, Nat.zero_add, ← Array.getElem?_toList]
    exact hu
  have h1 : ∀ u ∈ ([.int .i64 z0] : List Value), u.oneCell' = true := fun u hu => by
    obtain rfl := List.mem_singleton.1 hu
    rfl
  obtain ⟨v', W', hr, q1, q2, _⟩ := run_append_own (P := Try.prog) W B 22 ty 3 i (.int .i64 0) 1 8 Try.underlying22 i1 i2 i3 i4 rfl (by decide) v n (intsL n f) hown ⟨g, 0, none⟩ 1 1 [.int .i64 z0] (by rfl) hnews h1 (by unfold maxLen; omega) (by omega) hB
  have e : intsL n f ++ [.int .i64 z0] = intsL (n + 1) (fun j => if j < n then f j else z0) := by
    rw [intsL_succ, if_neg (Nat.lt_irrefl n), intsL_congr (fun j hj => (if_pos hj).symm)]
  rw [e] at q1
  refine ⟨v', W', hr, ⟨_, q1, fun j hj => if_pos hj⟩, ?_⟩
  have hown2 := hown.2
  rcases hown2 with ⟨rfl, rfl⟩ | ⟨g', cap, cur, rfl, hB', hg', hnc, hcm, hcs, htake⟩
  · have hr2 := run_append_nil (P := Try.prog) W 22 ty 3 i (.int .i64 0) Try.underlying22 i1 i2 ⟨g, 0, none⟩ 1 1 [.int .i64 z0] hl hnews (by omega) (by omega) (by rw [i4]; omega)
    have r4 := hr.symm.trans hr2
    injection r4 with e1 e2
    subst e1
    subst e2
    exact Or.inr ⟨((Below.refl _ _).drew).alloc (Nat.le_refl _) _, fun k e => Nat.le_of_eq (Option.some.inj e)⟩
  · by_cases hroom : n + 1 ≤ cap
    · have hr2 := run_append_room (P := Try.prog) W 22 ty 3 i Try.underlying22 i1 g' n cap cur hg' ⟨g, 0, none⟩ 1 1 [.int .i64 z0] hl hnews h1 hroom (by rw [hcs, i3]; simp; omega)
      have r4 := hr.symm.trans hr2
      injection r4 with e1 e2
      subst e1
      exact Or.inl ⟨g', cap, rfl, rfl, q2⟩
    · have holds : ∀ j u, (intsL n f)[j]? = some u → W.cell? ((⟨g', 0, none⟩ : Addr).add j) = some u := hown.cells (g := g') rfl
      have hr2 := run_append_grow (P := Try.prog) W 22 ty 3 i (.int .i64 0) Try.underlying22 i1 i2 ⟨g', 0, none⟩ n cap (intsL n f) (by rw [i3]; exact hown.1) holds ⟨g, 0, none⟩ 1 1 [.int .i64 z0] hl hnews (by omega) (by omega) (growslice_fits (by omega) (by rw [i4]; omega))
      have r4 := hr.symm.trans hr2
      injection r4 with e1 e2
      subst e1
      subst e2
      exact Or.inr ⟨((Below.refl _ _).drew).alloc (Nat.le_refl _) _, fun k e => Nat.le_of_eq (Option.some.inj e)⟩
theorem slice_inj {b g n m c d : Nat} (e : Value.slice (some ⟨b, 0, none⟩) n c = .slice (some ⟨g, 0, none⟩) m d) : b = g ∧ c = d := by
  injection e with e1 _ e3
  injection e1 with e1
  injection e1 with e1 _ _
  exact ⟨e1, e3⟩
/-- A list that began as row t and has grown by d: in that row's room, or apart from all. -/
structure Ap (V W : World) (k : Nat) (x : Nat → Value) (nn : Nat → Nat) (ff : Nat → Nat → Int) (lv wv : Value) (bw t : Nat) (l : Value) (d : Nat) : Prop where
  k2 : K2 V W k x nn ff lv wv bw 18
  own : ∃ q, W.ownsRow V.heap.size 3 1 l (nn t + d) (intsL (nn t + d) q) ∧ ∀ j, j < nn t → q j = ff t j
  pl : (∃ g c, x t = .slice (some ⟨g, 0, none⟩) (nn t) c ∧ l = .slice (some ⟨g, 0, none⟩) (nn t + d) c) ∨ ∀ s, s < k → ∀ b, l.ownBlock = some b → (x s).ownBlock ≠ some b
section
variable {V W W' : World} {k t d bw : Nat} {x : Nat → Value} {nn : Nat → Nat} {ff : Nat → Nat → Int} {lv wv l : Value}
theorem Ap.on (h : Ap V W k x nn ff lv wv bw t l d) (q : Below W.heap.size W W') : Ap V W' k x nn ff lv wv bw t l d := by
  obtain ⟨p, h1, h2⟩ := h.own
  exact ⟨h.k2.on q, ⟨p, ownD_below h1 q, h2⟩, h.pl⟩
theorem Ap.begin (h : K2 V W k x nn ff lv wv bw 18) (ht : t < k) : Ap V W k x nn ff lv wv bw t (x t) 0 := by
  refine ⟨h, ⟨ff t, h.k1.fam.rows t ht, fun _ _ => rfl⟩, ?_⟩
  rcases (h.k1.fam.rows t ht).2 with ⟨e, _⟩ | ⟨g, cap, cur, e, _⟩
  · refine Or.inr fun s _ b q => ?_
    rw [e] at q
    cases q
  · exact Or.inl ⟨g, cap, e, e⟩
theorem Ap.more {l' : Value} {q : Nat → Int} (h : Ap V W k x nn ff lv wv bw t l d) (ht : t < k) (own : W'.ownsRow V.heap.size 3 1 l' (nn t + d + 1) (intsL (nn t + d + 1) q)) (hq : ∀ j, j < nn t → q j = ff t j)
    (hpl : (∃ b c, l = .slice (some ⟨b, 0, none⟩) (nn t + d) c ∧ l' = .slice (some ⟨b, 0, none⟩) (nn t + d + 1) c ∧ W.grownBy W' (some b)) ∨ (Below W.heap.size W W' ∧ ∀ k, l'.ownBlock = some k → W.heap.size ≤ k)) : Ap V W' k x nn ff lv wv bw t l' (d + 1) := by
  rcases hpl with ⟨b, c, e1, e2, gr⟩ | ⟨hb, hk⟩
  · have hown := h.own
    obtain ⟨p, o1, _⟩ := hown
    have hbB : V.heap.size ≤ b := by rw [e1] at o1; exact (o1.lt b rfl).1
    have gr2 : W.grownBy W' l.ownBlock := by rw [e1]; exact gr
    have hli := own_overT h.k2.k1.li o1 gr2 (show (22 : TypeId) ≠ 3 by decide)
    have hwa := own_overT h.k2.wa o1 gr2 (show (22 : TypeId) ≠ 3 by decide)
    have hbel : Below V.heap.size V W' := h.k2.k1.bel.grown gr h.k2.k1.bel.size (fun z e => by rw [← Option.some.inj e]; exact hbB)
    have hfam : FmI V.heap.size k x nn ff W' := by
      refine ⟨fun s hs => ?_, h.k2.k1.fam.dis⟩
      rcases h.pl with ⟨g, c', f1, f2⟩ | hp
      · have e3 := e1.symm.trans f2
        obtain ⟨e3, e4⟩ := slice_inj e3
        subst e3
        subst e4
        by_cases hst : s = t
        · subst hst
          rw [e2] at own
          rw [f1, ← intsL_congr hq]
          exact own_takeI own (by omega)
        · exact ownW_grown (h.k2.k1.fam.rows s hs) gr (fun z e q => h.k2.k1.fam.dis s t hs ht hst z e (by rw [f1]; exact q))
      · exact ownW_grown (h.k2.k1.fam.rows s hs) gr (fun z e q => hp s hs z (by rw [e1]; exact q) e)
    refine ⟨⟨⟨hbel, hfam, hli⟩, hwa, h.k2.lb, h.k2.b1, Nat.le_trans h.k2.b2 gr.size⟩, ⟨q, own, hq⟩, ?_⟩
    rcases h.pl with ⟨g, c', f1, f2⟩ | hp
    · have e3 := e1.symm.trans f2
      obtain ⟨e3, e4⟩ := slice_inj e3
      subst e3
      subst e4
      exact Or.inl ⟨b, c, f1, e2⟩
    · refine Or.inr fun s hs z q => hp s hs z ?_
      rw [e2] at q
      rw [e1]
      exact q
  · refine ⟨h.k2.on hb, ⟨q, own, hq⟩, Or.inr fun s hs z e1 e2 => ?_⟩
    have a1 := hk z e1
    have a2 := h.k2.k1.blt s hs z e2
    omega
end
/-- append to such a list. -/
theorem stepAp {V W : World} {k t d bw g : Nat} {x : Nat → Value} {nn : Nat → Nat} {ff : Nat → Nat → Int} {lv wv l : Value} {z0 : Int} {ops : Array Oper} {Q : Exit → Act → World → Prop} {K : Act → World → Prop} {j : Nat} {o : Oper} {a : Act} {s y : Operand} (hos : ops[j]? = some o) (hgd : Region.wanted o (yielded ops a.tmps) = true)
    (ho : o.op = .call { callee := .builtin .append, args := #[s, y], argTypes := #[22, 22] }) (hs : a.eval s = l) (hx : a.eval y = .slice (some ⟨g, 0, none⟩) 1 1) (h : Ap V W k x nn ff lv wv bw t l d) (ht : t < k) (hg : W.heap[g]? = some (.cells #[.int .i64 z0] 3)) (hn : nn t + d + 1 ≤ 17592186044416)
    (hK : ∀ l' W', Ap V W' k x nn ff lv wv bw t l' (d + 1) → K (a.put o.dst l') W') : wpOp Try.prog ops Q j K a W := by
  obtain ⟨p, o1, o2⟩ := h.own
  obtain ⟨v', W', hr, ⟨q, q1, q2⟩, q3⟩ := run_app2I W o.type _ (nn t + d) g l p z0 o1 hg hn h.k2.k1.bel.size
  refine stepV hos hgd (v := v') (w' := W') ?_ (hK v' W' (h.more ht q1 (fun j hj => (q2 j (by omega)).trans (o2 j hj)) q3))
  unfold execOp
  simp only [ho, resolve, invoke, builtin, Sem.run_bind, Sem.run_pure, Result.andThen_ok, List.map_toArray, List.map_cons, List.map_nil, hs, hx, hr]
end Go.Proofs.Ytldhhfkplongiaa.Prm
