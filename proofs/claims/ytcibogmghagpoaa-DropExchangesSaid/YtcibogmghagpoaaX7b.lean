import Derived.Test.YtcibogmghagpoaaC2
namespace Go.Proofs.Ytcibogmghagpoaa.Cel
open Go.RowKit Gf8 Aes By8
/- Lists of their own, of any lengths, that are marked and grown apart. -/

/-- Row t and what was appended to it. -/
def gM (f : Nat → Nat) (n z : Nat) : Nat → Nat := fun l => if l < n then f l else z
/-- m lists, the t-th of nn t bytes; what each has been grown to. -/
structure ApN (B m : Nat) (nn : Nat → Nat) (x : Nat → Value) (ff : Nat → Nat → Nat) (zz : Nat → Nat) (gv : Nat → Value) (gl : Nat → Nat) (W : World) : Prop where
  fam : Fam B m x nn ff W
  grown : ∀ t, t < m → W.ownsRow B 5 1 (gv t) (gl t) (bytesL (gl t) (gM (ff t) (nn t) (zz t)))
  le : ∀ t, t < m → nn t ≤ gl t
  at' : ∀ t, t < m → (gv t).ownBlock = (x t).ownBlock ∨ ∀ s, s < m → Dis (gv t) (x s)
  dis : ∀ s t, s < m → t < m → s ≠ t → Dis (gv s) (gv t)
theorem ApN.begin {B m : Nat} {nn : Nat → Nat} {x : Nat → Value} {ff : Nat → Nat → Nat} {zz : Nat → Nat} {W : World} (h : Fam B m x nn ff W) : ApN B m nn x ff zz x nn W :=
  ⟨h, fun t ht => by
    have e : bytesL (nn t) (gM (ff t) (nn t) (zz t)) = bytesL (nn t) (ff t) := bytesL_congr fun l hl => if_pos hl
    rw [e]
    exact h.rows t ht, fun _ _ => Nat.le_refl _, fun _ _ => Or.inl rfl, h.dis⟩
theorem ApN.on {B m : Nat} {nn : Nat → Nat} {x : Nat → Value} {ff : Nat → Nat → Nat} {zz : Nat → Nat} {gv : Nat → Value} {gl : Nat → Nat} {W W' : World} (h : ApN B m nn x ff zz gv gl W) (hb : Below W.heap.size W W') : ApN B m nn x ff zz gv gl W' :=
  ⟨h.fam.on hb, fun t ht => ownsRow_below (h.grown t ht) hb, h.le, h.at', h.dis⟩
/-- A cell of a list of lists is set: the bytes stay. -/
theorem ApN.cell {B m : Nat} {nn : Nat → Nat} {x : Nat → Value} {ff : Nat → Nat → Nat} {zz : Nat → Nat} {gv : Nat → Value} {gl : Nat → Nat} {W : World} {b k : Nat} {c : Array Value} {u : Value} (h : ApN B m nn x ff zz gv gl W) (hb : W.heap[b]? = some (.cells c 23)) : ApN B m nn x ff zz gv gl (W.setCell ⟨b, k, none⟩ u) :=
  ⟨⟨fun t ht => own_stays (h.fam.rows t ht) hb (fun e => own_ne (h.fam.rows t ht) hb (by decide) e.symm), h.fam.dis⟩, fun t ht => own_stays (h.grown t ht) hb (fun e => own_ne (h.grown t ht) hb (by decide) e.symm), h.le, h.at', h.dis⟩
/-- One of them has been grown. -/
theorem ApN.grow {B m : Nat} {nn : Nat → Nat} {x : Nat → Value} {ff : Nat → Nat → Nat} {zz : Nat → Nat} {gv : Nat → Value} {gl : Nat → Nat} {W W' : World} (h : ApN B m nn x ff zz gv gl W) {i k : Nat} (hi : i < m) {v' : Value}
    (hv : W'.ownsRow B 5 1 v' (gl i + k) (bytesL (gl i + k) (gM (ff i) (nn i) (zz i)))) (hp : (v'.ownBlock = (gv i).ownBlock ∧ W.grownBy W' (gv i).ownBlock ∧ capV v' = capV (gv i)) ∨ (v'.ownBlock = some W.heap.size ∧ W.grownBy W' Option.none)) :
    ApN B m nn x ff zz (updX gv i v') (fun t => if t = i then gl i + k else gl t) W' := by
  have hle := h.le i hi
  rcases hp with ⟨e, hg, hc⟩ | ⟨e, hg⟩
  · have keep : ∀ t, t < m → t ≠ i → W'.ownsRow B 5 1 (gv t) (gl t) (bytesL (gl t) (gM (ff t) (nn t) (zz t))) := fun t ht hne => by
      refine (h.grown t ht).kept hg ?_
      cases hq : (gv t).ownBlock with
      | none => exact Or.inl rfl
      | some b => exact Or.inr (fun q => h.dis t i ht hi hne b hq q.symm)
    refine ⟨⟨fun t ht => ?_, h.fam.dis⟩, fun t ht => ?_, fun t ht => ?_, fun t ht => ?_, fun s t hs ht hst => ?_⟩
    · cases hq : (x t).ownBlock with
      | none => exact (h.fam.rows t ht).kept hg (.inl hq)
      | some b =>
        by_cases hub : (gv i).ownBlock = some b
        · have et : t = i := by
            rcases h.at' i hi with pl | pl
            · rw [pl] at hub
              cases Nat.decEq t i with
              | isTrue h1 => exact h1
              | isFalse h1 => exact absurd hub (h.fam.dis t i ht hi h1 b hq)
            · exact absurd hq (pl t ht b hub)
          subst et
          obtain ⟨c1, g1, s1, v1, B1, n1, m1, t1⟩ := own_cap (h.fam.rows t ht) hq
          obtain ⟨c2, g2, s2, v2, _⟩ := own_cap (h.grown t ht) hub
          obtain ⟨c3, g3, s3, v3, _, n3, m3, t3⟩ := own_cap hv (by rw [e]; exact hub)
          have ecap : capV (x t) = capV v' := by
            rw [g1] at g2
            have : c1 = c2 := by simpa using g2
            rw [hc, ← s1, ← s2, this]
          refine ⟨by rw [bytesL_len, Nat.mul_one], .inr ⟨b, capV (x t), c3, v1, B1, g3, n1, m1, by rw [Nat.mul_one, s3, ecap], ?_⟩⟩
          rw [Nat.mul_one]
          have h4 : c3.toList.take (nn t) = (c3.toList.take (gl t + k)).take (nn t) := by rw [List.take_take, Nat.min_eq_left (by omega)]
          rw [h4, t3]
          unfold bytesL
          rw [← List.map_take, List.take_range, Nat.min_eq_left (by omega)]
          apply List.map_congr_left
          intro l hl
          have := List.mem_range.1 hl
          unfold gM
          rw [if_pos this]
        · exact (h.fam.rows t ht).kept hg (.inr fun q => hub (by rw [← q]; exact hq))
    · by_cases et : t = i
      · subst et
        rw [updX_at]
        simp only [if_true]
        exact hv
      · unfold updX
        simp only [if_neg et]
        exact keep t ht et
    · by_cases et : t = i
      · subst et; simp only [if_true]; omega
      · simp only [if_neg et]; exact h.le t ht
    · by_cases et : t = i
      · subst et
        rw [updX_at]
        rcases h.at' t ht with pl | pl
        · exact .inl (e.trans pl)
        · exact .inr fun s hs b hb => pl s hs b (by rw [← e]; exact hb)
      · unfold updX
        simp only [if_neg et]
        exact h.at' t ht
    · unfold updX
      by_cases e1 : s = i
      · have e2 : t ≠ i := fun q => hst (e1.trans q.symm)
        simp only [if_pos e1, if_neg e2]
        intro b hb
        exact h.dis i t hi ht (fun q => e2 q.symm) b (by rw [← e]; exact hb)
      · by_cases e2 : t = i
        · simp only [if_neg e1, if_pos e2]
          intro b hb hq
          exact h.dis s i hs hi e1 b hb (by rw [← e]; exact hq)
        · simp only [if_neg e1, if_neg e2]
          exact h.dis s t hs ht hst
  · have old : ∀ {v : Value} {n : Nat} {xs : List Value}, W.ownsRow B 5 1 v n xs → W'.ownsRow B 5 1 v n xs := fun {v} {n} {xs} hw => hw.kept hg (by cases v.ownBlock <;> simp)
    have new : ∀ {v : Value} {n : Nat} {xs : List Value}, W.ownsRow B 5 1 v n xs → Dis v' v := fun {v} {n} {xs} hw b hb q => by
      rw [e] at hb
      have := Option.some.inj hb
      have := (hw.lt b q).2
      omega
    refine ⟨⟨fun t ht => old (h.fam.rows t ht), h.fam.dis⟩, fun t ht => ?_, fun t ht => ?_, fun t ht => ?_, fun s t hs ht hst => ?_⟩
    · by_cases et : t = i
      · subst et
        rw [updX_at]
        simp only [if_true]
        exact hv
      · unfold updX
        simp only [if_neg et]
        exact old (h.grown t ht)
    · by_cases et : t = i
      · subst et; simp only [if_true]; omega
      · simp only [if_neg et]; exact h.le t ht
    · by_cases et : t = i
      · subst et
        rw [updX_at]
        exact .inr fun s hs => new (h.fam.rows s hs)
      · unfold updX
        simp only [if_neg et]
        exact h.at' t ht
    · unfold updX
      by_cases e1 : s = i
      · have e2 : t ≠ i := fun q => hst (e1.trans q.symm)
        simp only [if_pos e1, if_neg e2]
        exact new (h.grown t ht)
      · by_cases e2 : t = i
        · simp only [if_neg e1, if_pos e2]
          exact (new (h.grown s hs)).symm
        · simp only [if_neg e1, if_neg e2]
          exact h.dis s t hs ht hst

end Go.Proofs.Ytcibogmghagpoaa.Cel
