import Derived.Test.YtcibogmghagpoaaV8j
import Derived.Test.YtcibogmghagpoaaV8p
namespace Go.Proofs.Ytcibogmghagpoaa.Dro
open Go.RowKit Gf8 Aes By8 Cel Cf Tap Drw
/- Stage 28: the laws' copied and lent; lists whose blocks lie within bounds. Written by tools/mkV8q.py. -/

theorem heap_set28 {W : World} {g k i : Nat} {u : Value} (h : i ≠ g) : (W.setCell ⟨g, k, none⟩ u).heap[i]? = W.heap[i]? := by
  unfold World.setCell
  simp only [Array.getElem?_modify]
  rw [if_neg (fun e => h e.symm)]
theorem own_hp {W W' : World} {B n s : Nat} {t : TypeId} {v : Value} {xs : List Value} (h : W.ownsRow B t s v n xs) (e : ∀ k, v.ownBlock = some k → W'.heap[k]? = W.heap[k]?) : W'.ownsRow B t s v n xs := by
  refine ⟨h.1, ?_⟩
  rcases h.2 with q | ⟨g, cap, cur, e1, h1, h2, h3⟩
  · exact Or.inl q
  · subst e1
    exact Or.inr ⟨g, cap, cur, rfl, h1, (e g rfl).trans h2, h3⟩
theorem fam_hp {W W' : World} {B m : Nat} {x : Nat → Value} {nn : Nat → Nat} {ff : Nat → Nat → Nat} (h : Fam B m x nn ff W) (e : ∀ t, t < m → ∀ k, (x t).ownBlock = some k → W'.heap[k]? = W.heap[k]?) : Fam B m x nn ff W' := ⟨fun t ht => own_hp (h.rows t ht) (e t ht), h.dis⟩
/-- Answers whose blocks lie from lo to hi. -/
structure AnI (lo hi : Nat) (W : World) (v : Value) (n : Nat) (y : Nat → Value) (ln : Nat → Nat) (f : Nat → Nat → Nat) : Prop where
  an : An lo W v n y ln f
  hv : ∀ k, v.ownBlock = some k → k < hi
  hr : ∀ t, t < n → ∀ k, (y t).ownBlock = some k → k < hi
section
variable {lo hi B n : Nat} {W W' : World} {v : Value} {y : Nat → Value} {ln : Nat → Nat} {f : Nat → Nat → Nat}
theorem AnI.keep (h : AnI lo hi W v n y ln f) (e : ∀ k, lo ≤ k → k < hi → W'.heap[k]? = W.heap[k]?) : AnI lo hi W' v n y ln f :=
  ⟨⟨own_hp h.an.own fun k hk => e k (h.an.own.lt k hk).1 (h.hv k hk), fam_hp h.an.fam fun t ht k hk => e k ((h.an.fam.rows t ht).lt k hk).1 (h.hr t ht k hk), h.an.byt⟩, h.hv, h.hr⟩
theorem AnI.on (h : AnI lo hi W v n y ln f) (hb : Below W.heap.size W W') : AnI lo hi W' v n y ln f := ⟨h.an.on hb, h.hv, h.hr⟩
theorem AnI.base (h : AnI lo hi W v n y ln f) (hB : B ≤ lo) : AnI B hi W v n y ln f := ⟨⟨ownD_base h.an.own hB, fam_base h.an.fam hB, h.an.byt⟩, h.hv, h.hr⟩
theorem AnI.set {g k : Nat} {u : Value} (h : AnI lo hi W v n y ln f) (hg : g < lo) : AnI lo hi (W.setCell ⟨g, k, none⟩ u) v n y ln f := h.keep fun k h1 _ => heap_set28 (by omega)
theorem AnI.ls (h : AnI lo hi W v n y ln f) (hl : ∀ t, t < n → ln t ≤ 140737488351232) : Ls W v n y ln f := h.an.ls hl
theorem AnI.of (h : An lo W v n y ln f) : AnI lo W.heap.size W v n y ln f := ⟨h, fun k hk => (h.own.lt k hk).2, fun t ht k hk => ((h.fam.rows t ht).lt k hk).2⟩
theorem AnI.grown {row : Option Nat} (h : AnI lo hi W v n y ln f) (hh : hi ≤ W.heap.size) (hg : W.grownBy W' row) (hr : ∀ k, row = some k → hi ≤ k) : AnI lo hi W' v n y ln f := h.keep fun k _ h2 => hg.block k (by omega) (fun e => by have := hr k e.symm; omega)
end
/-- Bytes, and two marks behind them. -/
def rmY (p : Nat → Nat) (l j : Nat) : Nat := if j < l then p j else if j = l then 77 else 78
/-- The copies: rows of their own with two marked places behind each list. -/
structure CpI (lo hi : Nat) (W : World) (v : Value) (n : Nat) (g cp ln : Nat → Nat) (c : Nat → Nat → Nat) : Prop where
  own : W.ownsRow lo 23 1 v n (lL (fun t => .slice (some ⟨g t, 0, none⟩) (ln t) (cp t)) n)
  fam : Fam lo n (fun t => .slice (some ⟨g t, 0, none⟩) (ln t + 2) (cp t)) (fun t => ln t + 2) (fun t => rmY (c t) (ln t)) W
  byt : ∀ t, t < n → ∀ j, j < ln t → c t j < 256
  len : ∀ t, t < n → ln t ≤ 140737488351232
  hv : ∀ k, v.ownBlock = some k → k < hi
  hr : ∀ t, t < n → g t < hi
theorem rm_lt {p : Nat → Nat} {l j : Nat} (h : ∀ i, i < l → p i < 256) : rmY p l j < 256 := by
  unfold rmY
  split
  · rename_i q; exact h j q
  · split <;> decide
section
variable {lo hi n : Nat} {W W' : World} {v : Value} {g cp ln : Nat → Nat} {c : Nat → Nat → Nat}
theorem CpI.on (h : CpI lo hi W v n g cp ln c) (hb : Below W.heap.size W W') : CpI lo hi W' v n g cp ln c := ⟨ownD_below h.own hb, h.fam.on hb, h.byt, h.len, h.hv, h.hr⟩
theorem CpI.keep (h : CpI lo hi W v n g cp ln c) (e : ∀ k, lo ≤ k → k < hi → W'.heap[k]? = W.heap[k]?) : CpI lo hi W' v n g cp ln c :=
  ⟨own_hp h.own fun k hk => e k (h.own.lt k hk).1 (h.hv k hk), fam_hp h.fam fun t ht k hk => e k ((h.fam.rows t ht).lt k hk).1 (by have := h.hr t ht; simp [Value.ownBlock] at hk; omega), h.byt, h.len, h.hv, h.hr⟩
theorem CpI.grown {row : Option Nat} (h : CpI lo hi W v n g cp ln c) (hh : hi ≤ W.heap.size) (hg : W.grownBy W' row) (hr : ∀ k, row = some k → hi ≤ k) : CpI lo hi W' v n g cp ln c := h.keep fun k _ h2 => hg.block k (by omega) (fun e => by have := hr k e.symm; omega)
theorem CpI.row (h : CpI lo hi W v n g cp ln c) {t : Nat} (ht : t < n) : SliceN W (.slice (some ⟨g t, 0, none⟩) (ln t + 2) (cp t)) (ln t + 2) (rmY (c t) (ln t)) := own_slice (h.fam.rows t ht) fun _ _ => rm_lt (h.byt t ht)
theorem CpI.ls (h : CpI lo hi W v n g cp ln c) : Ls W v n (fun t => .slice (some ⟨g t, 0, none⟩) (ln t) (cp t)) ln c :=
  ls_of h.own (fun t ht => slice_cg (takeN (h.row ht) (by omega)) fun j hj => if_pos hj) (fun t _ l c e => by cases e) h.len
theorem CpI.lo_ (h : CpI lo hi W v n g cp ln c) {t : Nat} (ht : t < n) : lo ≤ g t := ((h.fam.rows t ht).lt (g t) rfl).1
theorem CpI.put (h : CpI lo hi W v n g cp ln c) {t j : Nat} (ht : t < n) (hj : j < ln t) {z : Nat} (hz : z < 256) : CpI lo hi (W.setCell ⟨g t, 0 + j, none⟩ (.int .u8 ((z : Nat) : Int))) v n g cp ln (fun s => if s = t then (fun l => if l = j then z else c t l) else c s) := by
  rw [Nat.zero_add]
  obtain ⟨cc, hc⟩ := own_type (h.fam.rows t ht) (k := g t) rfl
  refine ⟨ownW_setCell h.own hc (by decide), fam_cg8 (fam_set8 h.fam ht rfl z) fun s hs l hl => ?_, fun s hs l hl => ?_, h.len, h.hv, h.hr⟩
  · by_cases e : s = t
    · subst e
      rw [if_pos rfl]
      show (if l = j then z else rmY (c s) (ln s) l) = rmY (if s = s then (fun l => if l = j then z else c s l) else c s) (ln s) l
      rw [if_pos rfl]
      unfold rmY
      by_cases e2 : l = j
      · rw [if_pos e2, if_pos (by omega)]; exact (if_pos e2).symm
      · rw [if_neg e2]
        by_cases q : l < ln s
        · rw [if_pos q, if_pos q]; exact (if_neg e2).symm
        · rw [if_neg q, if_neg q]
    · rw [if_neg e]
      show rmY (c s) (ln s) l = rmY (if s = t then (fun l => if l = j then z else c t l) else c s) (ln s) l
      rw [if_neg e]
  · show (if s = t then (fun l => if l = j then z else c t l) else c s) l < 256
    by_cases e : s = t
    · subst e
      rw [if_pos rfl]
      by_cases e2 : l = j
      · simp only [if_pos e2]; exact hz
      · simp only [if_neg e2]; exact h.byt s hs l hl
    · rw [if_neg e]; exact h.byt s hs l hl
theorem CpI.cg {d : Nat → Nat → Nat} (h : CpI lo hi W v n g cp ln c) (e : ∀ t, t < n → ∀ j, j < ln t → c t j = d t j) : CpI lo hi W v n g cp ln d :=
  ⟨h.own, fam_cg8 h.fam fun t ht l _ => by show rmY (c t) (ln t) l = rmY (d t) (ln t) l; unfold rmY; split; rename_i q; exact e t ht l q; rfl, fun t ht j hj => by rw [← e t ht j hj]; exact h.byt t ht j hj, h.len, h.hv, h.hr⟩
theorem own_some {B m : Nat} {u : Value} {xs : List Value} (h : W.ownsRow B 5 1 u m xs) (hm : 0 < m) : ∃ g_ c_, u = .slice (some ⟨g_, 0, none⟩) m c_ := by
  rcases h.2 with ⟨_, e⟩ | ⟨g', c', cur, e, _⟩
  · have := h.1; rw [e] at this; simp at this; omega
  · exact ⟨g', c', e⟩
end
theorem own_cell28 {W : World} {B n g cap j : Nat} {p : Nat → Nat} (h : W.ownsRow B 5 1 (.slice (some ⟨g, 0, none⟩) n cap) n (bytesL n p)) (hj : j < n) : W.cell? ⟨g, 0 + j, none⟩ = some (.int .u8 (p j : Nat)) ∧ W.frozen? ⟨g, 0 + j, none⟩ = false := by
  rw [Nat.zero_add]
  refine ⟨own_at8 h hj, ?_⟩
  obtain ⟨cur, hg, _⟩ := own_cur h
  exact frozen4 hg

theorem own_e0 {W : World} {B : Nat} {f : Nat → Nat} (h : B ≤ W.heap.size) : (W.alloc (.cells #[] 5)).ownsRow B 5 1 (.slice (some ⟨W.heap.size, 0, none⟩) 0 0) 0 (bytesL 0 f) := own_base ⟨rfl, Or.inr ⟨W.heap.size, 0, #[], rfl, Nat.le_refl _, heapNew W _, Nat.le_refl _, by unfold maxLen; omega, rfl, rfl⟩⟩ h
theorem two_slice {W : World} {g : Nat} (h : W.heap[g]? = some (.cells #[.int .u8 77, .int .u8 78] 5)) : SliceN W (.slice (some ⟨g, 0, none⟩) 2 2) 2 (fun j => if j = 0 then 77 else 78) := lit_slice h (fun j hj => by match j, hj with | 0, _ => rfl | 1, _ => rfl) (fun j _ => by split <;> decide) (by omega)
theorem rm_hi {p : Nat → Nat} {l j : Nat} (hj : j < 2) : (fun j => if j = 0 then 77 else 78) j = rmY p l (0 + l + j) := by
  unfold rmY
  rw [if_neg (by omega)]
  match j, hj with
  | 0, _ => rw [if_pos (by omega)]; rfl
  | 1, _ => rw [if_neg (by omega)]; rfl
theorem rm_77 {p : Nat → Nat} {l : Nat} : rmY p l l = 77 := by unfold rmY; rw [if_neg (by omega), if_pos rfl]
theorem rm_78 {p : Nat → Nat} {l : Nat} : rmY p l (l + 1) = 78 := by unfold rmY; rw [if_neg (by omega), if_neg (by omega)]
theorem own_room {W : World} {B g l c : Nat} {xs : List Value} (h : W.ownsRow B 5 1 (.slice (some ⟨g, 0, none⟩) (0 + l + 2) c) (0 + l + 2) xs) : l ≤ c := by
  rcases h.2 with ⟨e, _⟩ | ⟨g', c', cur, e, _, _, h3, _⟩
  · cases e
  · injection e with _ _ e3; omega
theorem own_room2 {W : World} {B g l c : Nat} {xs : List Value} (h : W.ownsRow B 5 1 (.slice (some ⟨g, 0, none⟩) (l + 2) c) (l + 2) xs) : l + 2 ≤ c := by
  rcases h.2 with ⟨e, _⟩ | ⟨g', c', cur, e, _, _, h3, _⟩
  · cases e
  · injection e with _ _ e3; omega
theorem cp_row {W : World} {B g c l : Nat} {f : Nat → Nat} (h : W.ownsRow B 5 1 (.slice (some ⟨g, 0, none⟩) (0 + l + 2) c) (0 + l + 2) (bytesL (0 + l + 2) f)) : W.ownsRow B 5 1 (.slice (some ⟨g, 0, none⟩) (l + 2) c) (l + 2) (bytesL (l + 2) f) := by
  rw [Nat.zero_add] at h
  exact h
theorem cp_list {W : World} {B i a b : Nat} {v : Value} {g cp ln : Nat → Nat} (h : W.ownsRow B 23 1 v (i + 1) (lL (fun t => .slice (some ⟨g t, 0, none⟩) (ln t) (cp t)) i ++ (#[.slice (some ⟨a, 0, none⟩) (ln i) b] : Array Value).toList)) : W.ownsRow B 23 1 v (i + 1) (lL (fun t => .slice (some ⟨(fun t => if t = i then a else g t) t, 0, none⟩) (ln t) ((fun t => if t = i then b else cp t) t)) (i + 1)) := by
  have e : lL (fun t => .slice (some ⟨(fun t => if t = i then a else g t) t, 0, none⟩) (ln t) ((fun t => if t = i then b else cp t) t)) (i + 1) = lL (fun t => .slice (some ⟨g t, 0, none⟩) (ln t) (cp t)) i ++ [.slice (some ⟨a, 0, none⟩) (ln i) b] := by
    show lL _ i ++ [_] = _
    congr 1
    · exact lL_congr i fun t ht => by simp only [if_neg (show ¬ t = i by omega)]
    · simp
  rw [e]
  exact h
theorem cp_fam {W : World} {B i a b : Nat} {g cp nn : Nat → Nat} {ff : Nat → Nat → Nat} (h : Fam B (i + 1) (updX (fun t => .slice (some ⟨g t, 0, none⟩) (nn t) (cp t)) i (.slice (some ⟨a, 0, none⟩) (nn i) b)) nn ff W) : Fam B (i + 1) (fun t => .slice (some ⟨(fun t => if t = i then a else g t) t, 0, none⟩) (nn t) ((fun t => if t = i then b else cp t) t)) nn ff W := by
  have e : updX (fun t => .slice (some ⟨g t, 0, none⟩) (nn t) (cp t)) i (.slice (some ⟨a, 0, none⟩) (nn i) b) = fun t => .slice (some ⟨(fun t => if t = i then a else g t) t, 0, none⟩) (nn t) ((fun t => if t = i then b else cp t) t) := by
    funext t
    unfold updX
    by_cases q : t = i
    · subst q; simp
    · simp [q]
  rw [← e]
  exact h
set_option maxRecDepth 100000 in
set_option maxHeartbeats 4000000 in
/-- The law's copied. -/
theorem copied28 (n : Nat) (cv : Value) (xv : Nat → Value) (ln : Nat → Nat) (c : Nat → Nat → Nat) (V : World) (hL : Ls V cv n xv ln c) (hn : n ≤ 5000) :
    Calls Try.prog 11 #[cv] V fun e w' => (∃ r g cp s, e = .returned r ∧ CpI V.heap.size s w' r n g cp ln c ∧ s ≤ w'.heap.size ∧ V.heap.size ≤ s) ∧ Below V.heap.size V w' := by
  go_enter Try.func11, Try.ntmps11
  refine wo_ 25 [(0, cv)] ?_
  rintro a A ⟨t0, -⟩
  have BW : Below V.heap.size V V := Below.refl _ _
  have BB := BW
  refine wp_seq ?_
  refine wi_ A (h1_ t0) (rf_ [] (h1_ t0) ?_)
  rintro a A - ⟨t0, -⟩
  refine wp_seq ?_
  refine wi_ A (h1_ t0) (rf_ [(3, .slice none 0 0)] (h1_ t0) ?_)
  rintro a A ⟨t3, -⟩ ⟨t0, -⟩
  refine wp_seq ?_
  refine wp_seq ?_
  refine wi_ A (h2_ t0 t3) (rv_ 1 (.int .i64 ((n : Nat) : Int)) (fun a ee => execLenLL rfl (ee _) (hL.on BB).shp) (rf_ [(6, cv), (7, .int .i64 ((n : Nat) : Int)), (8, .int .i64 ((0 : Nat) : Int))] (h2_ t0 t3) ?_))
  rintro a A ⟨t6, t7, t8, -⟩ ⟨t0, t3, -⟩
  have FU : (V.ownsRow V.heap.size 23 1 (.slice none 0 0) (0) (lL (fun t => .slice (some ⟨(fun _ => 0) t, 0, none⟩) (ln t) ((fun _ => 0) t)) (0))) := World.ownsRow_nil _ _ _ _
  have FF : (Fam V.heap.size (0) (fun t => .slice (some ⟨(fun _ => 0) t, 0, none⟩) (ln t + 2) ((fun _ => 0) t)) (fun t => ln t + 2) (fun t => rmY (c t) (ln t)) V) := Fam.none _ _ _ _ _
  refine wp_block ?_
  refine wp_loop (fun a W => ∃ (i : Nat) (u : Value) (g : Nat → Nat) (cp : Nat → Nat), i ≤ n ∧ (a.tmps.size = 25 ∧ a.defers = []) ∧ a.eval (.tmp 0) = cv ∧ a.eval (.tmp 3) = u ∧ a.eval (.tmp 6) = cv ∧ a.eval (.tmp 7) = .int .i64 ((n : Nat) : Int) ∧ a.eval (.tmp 8) = .int .i64 ((i : Nat) : Int) ∧ Below V.heap.size V W ∧ (W.ownsRow V.heap.size 23 1 u (i) (lL (fun t => .slice (some ⟨g t, 0, none⟩) (ln t) (cp t)) (i))) ∧ (Fam V.heap.size (i) (fun t => .slice (some ⟨g t, 0, none⟩) (ln t + 2) (cp t)) (fun t => ln t + 2) (fun t => rmY (c t) (ln t)) W)) (fun a _ => n - (intOf (a.eval (.tmp 8))).toNat) ⟨0, .slice none 0 0, fun _ => 0, fun _ => 0, Nat.zero_le _, A, t0, t3, t6, t7, t8, BB, FU, FF⟩ ?_
  clear A t0 t3 t6 t7 t8 BB FU FF a
  rintro a XL3 ⟨i, u, g, cp, hi, A, t0, t3, t6, t7, t8, BB, FU, FF⟩
  have esi := t8
  refine wp_seq ?_
  refine wi_ A (h5_ t0 t3 t6 t7 t8) (rv_ 0 (.bool (decide (i < n))) (fun a ee => execLtW (p := i) (q := n) rfl (ee _) (ee _)) (rf_ [(9, .bool (decide (i < n)))] (h5_ t0 t3 t6 t7 t8) ?_))
  rintro a A ⟨t9, -⟩ ⟨t0, t3, t6, t7, t8, -⟩
  refine wp_seq ?_
  by_cases lti : i < n
  · rw [decide_eq_true lti] at t9
    refine wp_cond_true t9 ?_
    refine wp_skip ?_
    clear t9
    refine wp_seq ?_
    refine wp_block ?_
    have hVs := BB.size
    have hli := hL.lens i lti
    have FB : Below XL3.heap.size XL3 XL3 := Below.refl _ _
    have FF0 := FF
    clear FF
    refine wp_seq ?_
    refine wi_ A (h5_ t0 t3 t6 t7 t8) (rv_ 0 (.pointer (some ⟨adB cv, adO cv + i, none⟩)) (fun a ee => execIdxLs (k := i) (hL.on BB) rfl (ee _) (ee _) lti) (rv_ 1 (xv i) (fun a ee => execLdLs (k := i) (hL.on BB) rfl (ee _) lti) (rf_ [(5, xv i)] (h5_ t0 t3 t6 t7 t8) ?_)))
    rintro a A ⟨t5, -⟩ ⟨t0, t3, t6, t7, t8, -⟩
    obtain ⟨g13, egg13⟩ : ∃ z_ : Nat, XL3.heap.size = z_ := ⟨_, rfl⟩
    refine wi_ A (h6_ t0 t3 t6 t7 t8 t5) (rs_ 1 (fun a ee => ?_))
    refine stepV rfl rfl (execBs0 rfl) ⟨.slice (some ⟨g13, 0, none⟩) 0 0, ⟨_, rfl, by subst egg13; rfl⟩, fun X5_1 hX => ?_⟩
    have bQ : Below XL3.heap.size XL3 X5_1 := by subst hX egg13; exact (belNew XL3 _)
    have FO : (X5_1.ownsRow XL3.heap.size 5 1 (.slice (some ⟨g13, 0, none⟩) 0 0) (0) (bytesL (0) (rmY (c i) (ln i)))) := by subst hX egg13; exact own_e0 FB.size
    replace FU := (ownD_below FU bQ)
    replace FB := (FB.trans (bQ.mono FB.size))
    replace BB := BB.trans (bQ.mono BB.size)
    clear bQ hX egg13 ee a
    refine rs_ 3 (fun a ee => ?_)
    refine stepAppN (p := rmY (c i) (ln i)) rfl rfl rfl (ee _) (ee _) FO (slice_cg ((hL.on BB).cell i lti) (fun j hj => by rw [Nat.zero_add]; exact (if_pos hj).symm)) (hL.nil i lti) (by omega) FB.size fun v15 X5_2 own' gr => ⟨_, ⟨_, rfl, rfl⟩, eqw ?_⟩
    obtain ⟨BB, FU, FB, FO1⟩ : Below V.heap.size V X5_2 ∧ (X5_2.ownsRow V.heap.size 23 1 u (i) (lL (fun t => .slice (some ⟨g t, 0, none⟩) (ln t) (cp t)) (i))) ∧ (Below XL3.heap.size XL3 X5_2) ∧ (X5_2.ownsRow XL3.heap.size 5 1 (v15) (0 + ln i) (bytesL (0 + ln i) (rmY (c i) (ln i)))) := ⟨(BB).grown gr (BB).size (fun k hk => Nat.le_trans hVs (FO.lt k hk).1), (ownW_grown FU gr (fun k hk => row_ne8 FO FU (by decide) hk)), (FB.grown gr FB.size (fun k hk => (FO.lt k hk).1)), own'⟩
    clear FO ee a
    obtain ⟨g16, egg16⟩ : ∃ z_ : Nat, X5_2.heap.size = z_ := ⟨_, rfl⟩
    refine rs_ 4 (fun a ee => ?_)
    refine stepV rfl rfl (execBsU2 rfl) ⟨.slice (some ⟨g16, 0, none⟩) 2 2, ⟨_, rfl, by subst egg16; rfl⟩, fun X5_3 hX => ?_⟩
    have bQ : Below X5_2.heap.size X5_2 X5_3 := by subst hX egg16; exact (belNew X5_2 _)
    have FSe : (SliceN X5_3 (.slice (some ⟨g16, 0, none⟩) 2 2) 2 (fun j => if j = 0 then 77 else 78)) := by subst hX egg16; exact two_slice (heapNew X5_2 _)
    replace FU := (ownD_below FU bQ)
    replace FB := (FB.trans (bQ.mono FB.size))
    replace FO1 := (ownsRow_below FO1 bQ)
    replace BB := BB.trans (bQ.mono BB.size)
    clear bQ hX egg16 ee a
    refine rs_ 5 (fun a ee => ?_)
    refine stepAppN (p := rmY (c i) (ln i)) rfl rfl rfl (ee _) (ee _) FO1 (slice_cg FSe (fun j hj => rm_hi hj)) (fun _ _ h => by cases h) (by omega) FB.size fun v' X5_4 own' gr => ?_
    obtain ⟨g17, c17, ev_⟩ := own_some own' (by omega)
    subst ev_
    refine ⟨_, ⟨_, rfl, rfl⟩, eqw ?_⟩
    obtain ⟨BB, FU, FB, FA⟩ : Below V.heap.size V X5_4 ∧ (X5_4.ownsRow V.heap.size 23 1 u (i) (lL (fun t => .slice (some ⟨g t, 0, none⟩) (ln t) (cp t)) (i))) ∧ (Below XL3.heap.size XL3 X5_4) ∧ (X5_4.ownsRow XL3.heap.size 5 1 (.slice (some ⟨g17, 0, none⟩) (0 + ln i + 2) c17) (0 + ln i + 2) (bytesL (0 + ln i + 2) (rmY (c i) (ln i)))) := ⟨(BB).grown gr (BB).size (fun k hk => Nat.le_trans hVs (FO1.lt k hk).1), (ownW_grown FU gr (fun k hk => row_ne8 FO1 FU (by decide) hk)), (FB.grown gr FB.size (fun k hk => (FO1.lt k hk).1)), own'⟩
    clear FO1 FSe ee a
    obtain ⟨g21, egg21⟩ : ∃ z_ : Nat, X5_4.heap.size = z_ := ⟨_, rfl⟩
    refine rv_ 7 (.int .i64 ((ln i : Nat) : Int)) (fun a ee => execLenV (len := ln i) rfl (ee _) (shp (((hL.on BB).cell i lti)))) (rv_ 8 (.slice (some ⟨g17, 0, none⟩) (ln i) c17) (fun a ee => execSlH rfl (ee _) (ee _) (sl_h8 g17 (0 + ln i + 2) c17 (ln i) (own_room FA) X5_4)) (rs_ 9 (fun a ee => ?_)))
    refine stepV rfl rfl (execBsL rfl (ee _) ⟨_, _, _, rfl⟩) ⟨.slice (some ⟨g21, 0, none⟩) 1 1, ⟨_, rfl, by subst egg21; rfl⟩, fun X5_5 hX => ?_⟩
    have bQ : Below X5_4.heap.size X5_4 X5_5 := by subst hX egg21; exact (belNew X5_4 _)
    have Fg21 : (X5_5.heap[g21]? = some (.cells #[.slice (some ⟨g17, 0, none⟩) (ln i) c17] 23)) := by subst hX egg21; exact heapNew X5_4 _
    replace FU := (ownD_below FU bQ)
    replace FB := (FB.trans (bQ.mono FB.size))
    replace FA := (ownsRow_below FA bQ)
    replace BB := BB.trans (bQ.mono BB.size)
    clear bQ hX egg21 ee a
    refine rs_ 10 (fun a ee => ?_)
    refine stepAppLs rfl rfl rfl (ee _) (ee _) FU Fg21 rfl (one_of ⟨_, _, rfl⟩) (by omega) (BB).size fun v22 X5 own' gr => ⟨_, ⟨_, rfl, rfl⟩, eqw ?_⟩
    obtain ⟨BB, FU2, FF2⟩ : Below V.heap.size V X5 ∧ (X5.ownsRow V.heap.size 23 1 (v22) (i + 1) (lL (fun t => .slice (some ⟨(fun t => if t = i then g17 else g t) t, 0, none⟩) (ln t) ((fun t => if t = i then c17 else cp t) t)) (i + 1))) ∧ (Fam V.heap.size (i + 1) (fun t => .slice (some ⟨(fun t => if t = i then g17 else g t) t, 0, none⟩) (ln t + 2) ((fun t => if t = i then c17 else cp t) t)) (fun t => ln t + 2) (fun t => rmY (c t) (ln t)) X5) := ⟨(BB).grown gr (BB).size (fun k hk => (FU.lt k hk).1), cp_list own', (cp_fam (FF0.add FB hVs (cp_row FA))).grown FU gr⟩
    clear FU FB FA Fg21 ee a
    refine rf_ [(3, v22)] (h4_ t0 t6 t7 t8) ?_
    rintro a A ⟨t3, -⟩ ⟨t0, t6, t7, t8, -⟩
    refine wi_ A (h5_ t0 t3 t6 t7 t8) (rv_ 0 (.int .i64 ((i + 1 : Nat) : Int)) (fun a ee => execAd8 (p := i) (q := 1) rfl (ee _) rfl (by omega)) (rf_ [(8, .int .i64 ((i + 1 : Nat) : Int))] (h4_ t0 t3 t6 t7) ?_))
    rintro a A ⟨t8, -⟩ ⟨t0, t3, t6, t7, -⟩
    exact ⟨⟨i + 1, v22, (fun t => if t = i then g17 else g t), (fun t => if t = i then c17 else cp t), lti, A, t0, t3, t6, t7, t8, BB, FU2, FF2⟩, by show n - (intOf (a.eval (.tmp 8))).toNat < n - (intOf (Act.eval _ (.tmp 8))).toNat; rw [t8, esi]; show n - (i + 1) < n - i; omega⟩
  · rw [decide_eq_false lti] at t9
    refine wp_cond_false t9 ?_
    refine wp_exit ?_
    first | with_reducible refine exit_in ?_ | with_reducible refine exit_then (exit_in ?_) | with_reducible refine exit_then (exit_then (exit_in ?_)) | refine exit_in ?_ | refine exit_then (exit_in ?_) | refine exit_then (exit_then (exit_in ?_))
    clear t9 esi
    obtain rfl : i = n := by omega
    refine wp_seq ?_
    refine wi_ A (h5_ t0 t3 t6 t7 t8) (rg_ [(2, u)] ?_)
    rintro a A ⟨t2, -⟩
    refine wp_ret ?_
    repeat (first | with_reducible refine ret_in ?_ | with_reducible refine ret_then ?_)
    refine bodyPost_ret (results_tmp rfl _ _ _) A.2 ⟨⟨_, g, cp, _, ?_, ⟨FU, FF, fun t ht => (hL.cell t ht).bytes, hL.lens, fun k hk => (FU.lt k hk).2, fun t ht => ((FF.rows t ht).lt (g t) rfl).2⟩, Nat.le_refl _, BB.size⟩, BB⟩
    show Ending.returned (a.eval (.tmp 2)) = _
    rw [t2]
set_option maxRecDepth 100000 in
set_option maxHeartbeats 4000000 in
/-- The law's lent. -/
theorem lent28 (lo hi n : Nat) (cv : Value) (g cp ln : Nat → Nat) (c : Nat → Nat → Nat) (V : World) (hC : CpI lo hi V cv n g cp ln c) (hn : n ≤ 5000) :
    Calls Try.prog 16 #[cv] V fun e w' => e = .returned (.bool true) ∧ Below V.heap.size V w' := by
  go_enter Try.func16, Try.ntmps16
  refine wo_ 33 [(0, cv)] ?_
  rintro a A ⟨t0, -⟩
  have BW : Below V.heap.size V V := Below.refl _ _
  have BB := BW
  have hL := hC.ls
  refine wp_seq ?_
  refine wi_ A (h1_ t0) (rf_ [] (h1_ t0) ?_)
  rintro a A - ⟨t0, -⟩
  refine wp_seq ?_
  refine wp_seq ?_
  refine wi_ A (h1_ t0) (rv_ 1 (.int .i64 ((n : Nat) : Int)) (fun a ee => execLenLL rfl (ee _) (hL.on BB).shp) (rg_ [(6, cv), (7, .int .i64 ((n : Nat) : Int)), (8, .int .i64 ((0 : Nat) : Int))] ?_))
  rintro a A ⟨t6, t7, t8, -⟩
  refine wp_block ?_
  refine wp_loop (fun a W => ∃ (i : Nat), i ≤ n ∧ (a.tmps.size = 33 ∧ a.defers = []) ∧ a.eval (.tmp 6) = cv ∧ a.eval (.tmp 7) = .int .i64 ((n : Nat) : Int) ∧ a.eval (.tmp 8) = .int .i64 ((i : Nat) : Int) ∧ Below V.heap.size V W) (fun a _ => n - (intOf (a.eval (.tmp 8))).toNat) ⟨0, Nat.zero_le _, A, t6, t7, t8, BB⟩ ?_
  clear A t6 t7 t8 BB a
  rintro a XL2 ⟨i, hi, A, t6, t7, t8, BB⟩
  have esi := t8
  refine wp_seq ?_
  refine wi_ A (h3_ t6 t7 t8) (rv_ 0 (.bool (decide (i < n))) (fun a ee => execLtW (p := i) (q := n) rfl (ee _) (ee _)) (rf_ [(9, .bool (decide (i < n)))] (h3_ t6 t7 t8) ?_))
  rintro a A ⟨t9, -⟩ ⟨t6, t7, t8, -⟩
  refine wp_seq ?_
  by_cases lti : i < n
  · rw [decide_eq_true lti] at t9
    refine wp_cond_true t9 ?_
    refine wp_skip ?_
    clear t9
    refine wp_seq ?_
    refine wp_block ?_
    have hli := hC.len i lti
    refine wp_seq ?_
    refine wi_ A (h3_ t6 t7 t8) (rv_ 0 (.pointer (some ⟨adB cv, adO cv + i, none⟩)) (fun a ee => execIdxLs (k := i) (hL.on BB) rfl (ee _) (ee _) lti) (rv_ 1 (.slice (some ⟨g i, 0, none⟩) (ln i) (cp i)) (fun a ee => execLdLs (k := i) (hL.on BB) rfl (ee _) lti) (rf_ [(4, .slice (some ⟨g i, 0, none⟩) (ln i) (cp i))] (h3_ t6 t7 t8) ?_)))
    rintro a A ⟨t4, -⟩ ⟨t6, t7, t8, -⟩
    refine wp_seq ?_
    refine wi_ A (h4_ t6 t7 t8 t4) (rv_ 2 (.int .i64 ((ln i : Nat) : Int)) (fun a ee => execLenV (len := ln i) rfl (ee _) (shp (((hL.on BB).cell i lti)))) (rv_ 3 (.int .i64 ((ln i + 2 : Nat) : Int)) (fun a ee => execAd8 (p := ln i) (q := 2) rfl (ee _) rfl (by omega)) (rv_ 4 (.slice (some ⟨g i, 0, none⟩) (ln i + 2) (cp i)) (fun a ee => execSlH rfl (ee _) (ee _) (sl_h8 (g i) (ln i) (cp i) (ln i + 2) (own_room2 (hC.fam.rows i lti)) XL2)) (rf_ [(5, .slice (some ⟨g i, 0, none⟩) (ln i + 2) (cp i))] (h4_ t6 t7 t8 t4) ?_))))
    rintro a A ⟨t5, -⟩ ⟨t6, t7, t8, t4, -⟩
    refine wp_seq ?_
    refine wi_ A (h5_ t6 t7 t8 t4 t5) (rv_ 2 (.int .i64 ((ln i : Nat) : Int)) (fun a ee => execLenV (len := ln i) rfl (ee _) (shp (((hL.on BB).cell i lti)))) (rv_ 3 (.pointer (some ⟨adB (.slice (some ⟨g i, 0, none⟩) (ln i + 2) (cp i)), adO (.slice (some ⟨g i, 0, none⟩) (ln i + 2) (cp i)) + (ln i), none⟩)) (fun a ee => execIdxSb (k := ln i) (((hC.row lti).on BB)) rfl (ee _) (ee _) (by omega)) (rv_ 4 (.int .u8 (((rmY (c i) (ln i)) (ln i) : Nat) : Int)) (fun a ee => execLdSb (k := ln i) (((hC.row lti).on BB)) rfl (ee _) (by omega)) (rv_ 5 (.bool false) (fun a ee => execNeqU8 (p := ((77 : Nat) : Int)) rfl ((ee _).trans (congrArg (fun q => Value.int .u8 ((q : Nat) : Int)) (show rmY (c i) (ln i) (ln i) = 77 from rm_77))) rfl) (rv_ 9 (.int .i64 ((ln i : Nat) : Int)) (fun a ee => execLenV (len := ln i) rfl (ee _) (shp (((hL.on BB).cell i lti)))) (rv_ 10 (.int .i64 ((ln i + 1 : Nat) : Int)) (fun a ee => execAd8 (p := ln i) (q := 1) rfl (ee _) rfl (by omega)) (rv_ 11 (.pointer (some ⟨adB (.slice (some ⟨g i, 0, none⟩) (ln i + 2) (cp i)), adO (.slice (some ⟨g i, 0, none⟩) (ln i + 2) (cp i)) + (ln i + 1), none⟩)) (fun a ee => execIdxSb (k := ln i + 1) (((hC.row lti).on BB)) rfl (ee _) (ee _) (by omega)) (rv_ 12 (.int .u8 (((rmY (c i) (ln i)) (ln i + 1) : Nat) : Int)) (fun a ee => execLdSb (k := ln i + 1) (((hC.row lti).on BB)) rfl (ee _) (by omega)) (rv_ 13 (.bool false) (fun a ee => execNeqU8 (p := ((78 : Nat) : Int)) rfl ((ee _).trans (congrArg (fun q => Value.int .u8 ((q : Nat) : Int)) (show rmY (c i) (ln i) (ln i + 1) = 78 from rm_78))) rfl) (rf_ [(31, .bool false)] (h3_ t6 t7 t8) ?_))))))))))
    rintro a A ⟨t31, -⟩ ⟨t6, t7, t8, -⟩
    refine wp_cond_false t31 ?_
    refine wp_skip ?_
    clear t31
    refine wi_ A (h3_ t6 t7 t8) (rv_ 0 (.int .i64 ((i + 1 : Nat) : Int)) (fun a ee => execAd8 (p := i) (q := 1) rfl (ee _) rfl (by omega)) (rf_ [(8, .int .i64 ((i + 1 : Nat) : Int))] (h2_ t6 t7) ?_))
    rintro a A ⟨t8, -⟩ ⟨t6, t7, -⟩
    exact ⟨⟨i + 1, lti, A, t6, t7, t8, BB⟩, by show n - (intOf (a.eval (.tmp 8))).toNat < n - (intOf (Act.eval _ (.tmp 8))).toNat; rw [t8, esi]; show n - (i + 1) < n - i; omega⟩
  · rw [decide_eq_false lti] at t9
    refine wp_cond_false t9 ?_
    refine wp_exit ?_
    first | with_reducible refine exit_in ?_ | with_reducible refine exit_then (exit_in ?_) | with_reducible refine exit_then (exit_then (exit_in ?_)) | refine exit_in ?_ | refine exit_then (exit_in ?_) | refine exit_then (exit_then (exit_in ?_))
    clear t9 esi
    refine wp_seq ?_
    refine wi_ A (h3_ t6 t7 t8) (rg_ [(2, .bool true)] ?_)
    rintro a A ⟨t2, -⟩
    refine wp_ret ?_
    repeat (first | with_reducible refine ret_in ?_ | with_reducible refine ret_then ?_)
    refine bodyPost_ret (results_tmp rfl _ _ _) A.2 ⟨?_, BB⟩
    show Ending.returned (a.eval (.tmp 2)) = _
    rw [t2]
end Go.Proofs.Ytcibogmghagpoaa.Dro
