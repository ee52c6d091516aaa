import Derived.Test.YtaoncjgllcndmaaDoorD2f
namespace Go.Proofs.YtaoncjgllcndmaaDoor.Frm
open Go.RowKit Gf8 Aes By8 Cel
/- What a Feed holds behind n bytes. -/

/-- The Feed's state behind n bytes of q, k cells whole. -/
structure Took (q : Nat → Nat) (n k : Nat) (s : FSt) : Prop where
  pos : Pos q s.f s.pl k
  lf : 3 ≤ s.f → s.lf = (q 5 : Nat)
  cl : 4 ≤ s.f → s.cl = (nCells q - k : Nat)
  rd : 5 ≤ s.f → s.rd = rdN q 8 8
  ep : 6 ≤ s.f → s.ep = rdN q 16 8
  or : (s.ft = 0 ∧ s.pl + s.hv = n ∧ s.hv < fsz s.f ∧ s.sa = (adl q s.pl).1 ∧ s.sb = (adl q s.pl).2 ∧ ∀ j, j < s.hv → s.part j = q (s.pl + j)) ∨ (s.ft = bad q s.f s.pl ∧ s.ft ≠ 0 ∧ s.pl + fsz s.f ≤ n)
theorem bad_ne (q : Nat → Nat) (f t : Nat) : bad q f t ≠ 67 ∧ bad q f t ≤ 66 := by
  have h : flt f ≤ 66 := by unfold flt; split <;> omega
  unfold bad
  split
  · omega
  · split
    · split <;> omega
    · split <;> omega
/-- What is told. -/
theorem Took.tells {q : Nat → Nat} {n k : Nat} {s : FSt} (h : Took q n k s) (hb : ∀ j, j < n → q j < 256) :
    jK q n = k ∧ headOk q n = decide (6 ≤ s.f) ∧ (s.ft = 0 → jE q n = if s.f = 9 then (0, 0) else (n, 67)) ∧ (s.ft ≠ 0 → jE q n = (s.pl, s.ft)) ∧ feedE q n = s.ft ∧ (s.ft = 0 → s.pl + s.hv = n) := by
  rcases h.or with ⟨h1, h2, h3, _⟩ | ⟨h1, h2, h3⟩
  · obtain ⟨a, b, c⟩ := h.pos.short (n := n) (by omega) (by omega)
    refine ⟨a, c, fun _ => b, fun q => absurd h1 q, ?_, fun _ => h2⟩
    unfold feedE
    rw [b, h1]
    split <;> rfl
  · obtain ⟨a, b, c⟩ := h.pos.fault (n := n) hb h3 (by rw [← h1]; exact h2)
    refine ⟨a, c, fun q => absurd q h2, fun _ => by rw [b, h1], ?_, fun q => absurd q h2⟩
    unfold feedE
    rw [b]
    show (if bad q s.f s.pl = 67 then 0 else bad q s.f s.pl) = _
    rw [if_neg (bad_ne _ _ _).1, h1]
theorem Took.later {q : Nat → Nat} {n k n' : Nat} {s : FSt} (h : Took q n k s) (hf : s.ft ≠ 0) (hn : n ≤ n') : Took q n' k s :=
  ⟨h.pos, h.lf, h.cl, h.rd, h.ep, Or.inr (by
    rcases h.or with ⟨h1, _⟩ | ⟨h1, h2, h3⟩
    · exact absurd h1 hf
    · exact ⟨h1, h2, by omega⟩)⟩
/-- A new Feed. -/
def newS : FSt := ⟨0, fun _ => 0, 0, 0, 1, 0, 0, 0, 0, 0, 0⟩
theorem Took.begin (q : Nat → Nat) : Took q 0 0 newS :=
  ⟨Pos.begin q, fun h => absurd h (by decide), fun h => absurd h (by decide), fun h => absurd h (by decide), fun h => absurd h (by decide), Or.inl ⟨rfl, rfl, by decide, rfl, rfl, fun j h => absurd h (by show ¬ j < 0; omega)⟩⟩
/-- The field is filled as far as the bytes go. -/
structure Filled (q : Nat → Nat) (t k : Nat) (s s1 : FSt) (c : Nat) : Prop where
  f : s1.f = s.f
  pl : s1.pl = s.pl
  hv : s1.hv = s.hv + c
  sa : s1.sa = (adl q s1.pl).1
  sb : s1.sb = (adl q s1.pl).2
  part : ∀ j, j < s1.hv → s1.part j = q (s1.pl + j)
  lf : s1.lf = s.lf
  cl : s1.cl = s.cl
  rd : s1.rd = s.rd
  ep : s1.ep = s.ep
  ft : s1.ft = 0
  at' : s1.pl + s1.hv = t + c
  le : s1.hv ≤ fsz s1.f
theorem Took.fill {q : Nat → Nat} {t k m : Nat} {s : FSt} (h : Took q t k s) (h0 : s.ft = 0) : Filled q t k s (fillS s (fun j => q (t + j)) m) (min m (fsz s.f - s.hv)) := by
  rcases h.or with ⟨_, h2, h3, h4, h5, h6⟩ | ⟨_, h2, _⟩
  · refine ⟨rfl, rfl, rfl, h4, h5, ?_, rfl, rfl, rfl, rfl, h0, ?_, ?_⟩
    · intro j hj
      show spl s.part s.hv (min m (fsz s.f - s.hv)) (fun j => q (t + j)) j = q (s.pl + j)
      have hj' : j < s.hv + min m (fsz s.f - s.hv) := hj
      unfold spl
      by_cases e : j < s.hv
      · rw [if_neg (by omega)]
        exact h6 j e
      · rw [if_pos (by omega)]
        show q (t + (j - s.hv)) = _
        rw [show t + (j - s.hv) = s.pl + j by omega]
    · show s.pl + (s.hv + min m (fsz s.f - s.hv)) = t + min m (fsz s.f - s.hv)
      omega
    · show s.hv + min m (fsz s.f - s.hv) ≤ fsz s.f
      omega
  · exact absurd h0 h2
/-- Not whole yet. -/
theorem Took.wait {q : Nat → Nat} {t k c : Nat} {s s1 : FSt} (h : Took q t k s) (hf : Filled q t k s s1 c) (hw : s1.hv ≠ fsz s1.f) : Took q (t + c) k s1 := by
  have e := hf.f
  have e2 := hf.pl
  refine ⟨by rw [e, e2]; exact h.pos, fun q => ?_, fun q => ?_, fun q => ?_, fun q => ?_, Or.inl ⟨hf.ft, hf.at', by have := hf.le; omega, hf.sa, hf.sb, hf.part⟩⟩
  · rw [hf.lf]; exact h.lf (by omega)
  · rw [hf.cl]; exact h.cl (by omega)
  · rw [hf.rd]; exact h.rd (by omega)
  · rw [hf.ep]; exact h.ep (by omega)
theorem Filled.num {q : Nat → Nat} {t k c : Nat} {s s1 : FSt} (hf : Filled q t k s s1 c) (hw : s1.hv = fsz s1.f) : nb s1.part s1.hv = fnum q s1.f s1.pl := by
  unfold fnum
  rw [← hw]
  exact nb_congr hf.part
/-- Whole and wrong? -/
theorem Filled.wrong {q : Nat → Nat} {t k c : Nat} {s s1 : FSt} (hf : Filled q t k s s1 c) (hw : s1.hv = fsz s1.f) (h7 : s1.f ≠ 7) : wrongB s1 = decide (bad q s1.f s1.pl ≠ 0) := by
  unfold wrongB bad
  rw [if_neg h7, hf.num hw, hf.sa, hf.sb]
  by_cases e : s1.f = 8
  · rw [if_pos e, if_pos e]
    by_cases g : fnum q s1.f s1.pl = (adl q s1.pl).2 * 65536 + (adl q s1.pl).1
    · rw [if_pos g, decide_eq_false (fun z => z g), decide_eq_false (fun z => z rfl)]
    · rw [if_neg g, decide_eq_true g, decide_eq_true (by omega)]
  · rw [if_neg e, if_neg e]
    by_cases g : fnum q s1.f s1.pl < low s1.f ∨ high s1.f < fnum q s1.f s1.pl
    · have : flt s1.f ≠ 0 := by
        unfold flt
        split <;> first | omega | (rename_i e7; exact absurd e7 h7) | skip
      rw [if_pos g, decide_eq_true g, decide_eq_true this]
    · rw [if_neg g, decide_eq_false g, decide_eq_false (fun z => z rfl)]
theorem bad_flt {q : Nat → Nat} {f t : Nat} (h : bad q f t ≠ 0) : bad q f t = flt f := by
  unfold bad at h ⊢
  split at h
  · exact absurd rfl h
  · rename_i h7
    rw [if_neg h7]
    split at h
    · rename_i h8
      rw [if_pos h8]
      split at h
      · exact absurd rfl h
      · rename_i g
        rw [if_neg g, h8]
        rfl
    · rename_i h8
      rw [if_neg h8]
      split at h
      · rename_i g
        rw [if_pos g]
      · exact absurd rfl h
theorem Took.refuse {q : Nat → Nat} {t k c n : Nat} {s s1 : FSt} (h : Took q t k s) (hf : Filled q t k s s1 c) (hw : s1.hv = fsz s1.f) (hb : bad q s1.f s1.pl ≠ 0) (hn : t + c ≤ n) : Took q n k (emptyS { s1 with ft := flt s1.f }) := by
  have e := hf.f
  have e2 := hf.pl
  refine ⟨by show Pos q s1.f s1.pl k; rw [e, e2]; exact h.pos, fun q => ?_, fun q => ?_, fun q => ?_, fun q => ?_, Or.inr ⟨(bad_flt hb).symm, ?_, ?_⟩⟩
  · show s1.lf = _; rw [hf.lf]; exact h.lf (by rw [← e]; exact q)
  · show s1.cl = _; rw [hf.cl]; exact h.cl (by rw [← e]; exact q)
  · show s1.rd = _; rw [hf.rd]; exact h.rd (by rw [← e]; exact q)
  · show s1.ep = _; rw [hf.ep]; exact h.ep (by rw [← e]; exact q)
  · show flt s1.f ≠ 0; rw [← bad_flt hb]; exact hb
  · show s1.pl + fsz s1.f ≤ n; have := hf.at'; omega
/-- A cell is taken, or the field's number noted. -/
def tookS (s : FSt) (N : Nat) : FSt := if s.f = 7 then { s with cl := s.cl - 1 } else noteS s N
theorem tookS_same (s : FSt) (N : Nat) : (tookS s N).f = s.f ∧ (tookS s N).pl = s.pl ∧ (tookS s N).hv = s.hv ∧ (tookS s N).sa = s.sa ∧ (tookS s N).sb = s.sb ∧ (tookS s N).part = s.part ∧ (tookS s N).ft = s.ft := by
  unfold tookS noteS
  split
  · exact ⟨rfl, rfl, rfl, rfl, rfl, rfl, rfl⟩
  · split
    · exact ⟨rfl, rfl, rfl, rfl, rfl, rfl, rfl⟩
    · split
      · exact ⟨rfl, rfl, rfl, rfl, rfl, rfl, rfl⟩
      · split
        · exact ⟨rfl, rfl, rfl, rfl, rfl, rfl, rfl⟩
        · split <;> exact ⟨rfl, rfl, rfl, rfl, rfl, rfl, rfl⟩
theorem nextF_ge {f n g : Nat} (hg : g ≤ 6) (h : g ≤ nextF f n) : g ≤ f + 1 := by
  unfold nextF at h
  split at h
  · omega
  · rename_i e
    omega
theorem Took.goOn {q : Nat → Nat} {t k c : Nat} {s s1 : FSt} (h : Took q t k s) (hf : Filled q t k s s1 c) (hw : s1.hv = fsz s1.f) (hbad : bad q s1.f s1.pl = 0) (hb : ∀ j, j < t + c → q j < 256) :
    Took q (t + c) (nextK s.f k) (goS (tookS s1 (nb s1.part s1.hv)) q (nCells q - nextK s.f k)) := by
  have e := hf.f
  have e2 := hf.pl
  have num := hf.num hw
  obtain ⟨N, hN⟩ : ∃ N, nb s1.part s1.hv = N := ⟨_, rfl⟩
  rw [hN] at num ⊢
  have at' := hf.at'
  rw [hw] at at'
  obtain ⟨t1, t2, t3, t4, t5, t6, t7⟩ := tookS_same s1 N
  have pos : Pos q (nextF s.f (nCells q - nextK s.f k)) (s.pl + fsz s.f) (nextK s.f k) := by
    refine h.pos.step ?_ ?_
    · rw [← e, ← e2, at']; exact hb
    · rw [← e, ← e2]; exact hbad
  have lt := h.pos.lt
  have place := h.pos.place
  rw [e, e2] at num hbad
  have ff : (goS (tookS s1 N) q (nCells q - nextK s.f k)).f = nextF s.f (nCells q - nextK s.f k) := by
    show nextF (tookS s1 N).f _ = _
    rw [t1, e]
  have fpl : (goS (tookS s1 N) q (nCells q - nextK s.f k)).pl = s.pl + fsz s.f := by
    show (tookS s1 N).pl + (tookS s1 N).hv = _
    rw [t2, t3, hw, e, e2]
  refine ⟨by rw [ff, fpl]; exact pos, ?_, ?_, ?_, ?_, Or.inl ⟨?_, ?_, ?_, ?_, ?_, ?_⟩⟩
  · intro h3
    rw [ff] at h3
    have h3' := nextF_ge (by omega) h3
    show (tookS s1 N).lf = _
    unfold tookS noteS
    by_cases f2 : s.f = 2
    · rw [if_neg (by omega), if_pos (by omega)]
      rw [f2] at num place
      rw [if_pos (by omega)] at place
      show (N : Int) = _
      rw [num, place]
      show ((0 * 256 + q (5 + 0) : Nat) : Int) = _
      rw [Nat.zero_mul, Nat.zero_add]
    · have := h.lf (by omega)
      rw [← hf.lf] at this
      split
      · exact this
      · rw [if_neg (by omega)]
        split
        · exact this
        · split
          · exact this
          · split <;> exact this
  · intro h3
    rw [ff] at h3
    have h3' := nextF_ge (by omega) h3
    show (tookS s1 N).cl = _
    unfold tookS noteS
    by_cases f3 : s.f = 3
    · rw [if_neg (by omega), if_neg (by omega), if_pos (by omega)]
      rw [f3] at num place
      rw [if_pos (by omega)] at place
      have k0 := h.pos.zero (by omega)
      show (N : Int) = _
      have nk : nextK s.f k = 0 := by unfold nextK; rw [if_neg (by omega), k0]
      have lt2 := nb_lt (p := fun j => q (6 + j)) (k := 2) fun j hj => hb _ (by rw [← at', e, e2, f3, place]; show 6 + j < 6 + 2; omega)
      have e2' : (256 : Nat) ^ 2 = 65536 := by decide
      rw [e2'] at lt2
      have er := rd_nb q 6 2 (by omega) fun j hj => hb _ (by rw [← at', e, e2, f3, place]; show 6 + j < 6 + 2; omega)
      rw [if_pos (by omega)] at er
      rw [nk, num, place]
      unfold nCells
      rw [er]
      show ((nb (fun j => q (6 + j)) 2 : Nat) : Int) = _
      omega
    · have := h.cl (by omega)
      rw [← hf.cl] at this
      by_cases f7 : s.f = 7
      · rw [if_pos (by omega)]
        show s1.cl - 1 = _
        have m := h.pos.more (by omega) (by omega)
        rw [this, show nextK s.f k = k + 1 from if_pos f7]
        omega
      · have nk : nextK s.f k = k := if_neg f7
        rw [nk, if_neg (by omega)]
        rw [if_neg (by omega), if_neg (by omega)]
        split
        · exact this
        · split <;> exact this
  · intro h3
    rw [ff] at h3
    have h3' := nextF_ge (by omega) h3
    show (tookS s1 N).rd = _
    unfold tookS noteS
    by_cases f4 : s.f = 4
    · rw [if_neg (by omega), if_neg (by omega), if_neg (by omega), if_pos (by omega)]
      rw [f4] at num place hbad
      rw [if_pos (by omega)] at place
      show (N : Int) = _
      have er := rd_nb q 8 8 (by omega) fun j hj => hb _ (by rw [← at', e, e2, f4, place]; show 8 + j < 8 + 8; omega)
      have nn : N = nb (fun j => q (8 + j)) 8 := by rw [num, place]; rfl
      rw [place] at hbad
      unfold bad at hbad
      rw [if_neg (by omega), if_neg (by omega)] at hbad
      have hi : N ≤ 4611686018427387903 := by
        apply Classical.byContradiction
        intro z
        have nn' : N = fnum q 4 (startN 4) := nn
        rw [if_pos (Or.inr (by rw [← nn']; show 4611686018427387903 < N; omega))] at hbad
        exact absurd hbad (by decide)
      rw [er, ← nn, if_pos (by omega)]
    · have := h.rd (by omega)
      rw [← hf.rd] at this
      split
      · exact this
      · rw [if_neg (by omega), if_neg (by omega), if_neg (by omega)]
        split <;> exact this
  · intro h3
    rw [ff] at h3
    have h3' := nextF_ge (by omega) h3
    show (tookS s1 N).ep = _
    unfold tookS noteS
    by_cases f5 : s.f = 5
    · rw [if_neg (by omega), if_neg (by omega), if_neg (by omega), if_neg (by omega), if_pos (by omega)]
      rw [f5] at num place hbad
      rw [if_pos (by omega)] at place
      show (N : Int) = _
      have er := rd_nb q 16 8 (by omega) fun j hj => hb _ (by rw [← at', e, e2, f5, place]; show 16 + j < 16 + 8; omega)
      have nn : N = nb (fun j => q (16 + j)) 8 := by rw [num, place]; rfl
      rw [place] at hbad
      unfold bad at hbad
      rw [if_neg (by omega), if_neg (by omega)] at hbad
      have hi : N ≤ 4611686018427387904 := by
        apply Classical.byContradiction
        intro z
        have nn' : N = fnum q 5 (startN 5) := nn
        rw [if_pos (Or.inr (by rw [← nn']; show 4611686018427387904 < N; omega))] at hbad
        exact absurd hbad (by decide)
      rw [er, ← nn, if_pos (by omega)]
    · have := h.ep (by omega)
      rw [← hf.ep] at this
      split
      · exact this
      · rw [if_neg (by omega), if_neg (by omega), if_neg (by omega), if_neg (by omega)]
        exact this
  · show (tookS s1 N).ft = 0
    rw [t7, hf.ft]
  · show (tookS s1 N).pl + (tookS s1 N).hv + 0 = t + c
    rw [t2, t3, hw]
    omega
  · show 0 < fsz _
    exact fsz_pos _
  · rw [fpl]
    show (adl q ((tookS s1 N).pl + (tookS s1 N).hv)).1 = _
    rw [t2, t3, hw, e, e2]
  · rw [fpl]
    show (adl q ((tookS s1 N).pl + (tookS s1 N).hv)).2 = _
    rw [t2, t3, hw, e, e2]
  · intro j hj
    exact absurd hj (by show ¬ j < 0; omega)
end Go.Proofs.YtaoncjgllcndmaaDoor.Frm
