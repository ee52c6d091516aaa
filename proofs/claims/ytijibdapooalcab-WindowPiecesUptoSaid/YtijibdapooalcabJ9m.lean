import Derived.Test.YtijibdapooalcabJ9l
import Derived.Test.YtijibdapooalcabJ9d
namespace Go.Proofs.Ytijibdapooalcab.Win
open Go.RowKit Gf8 Aes By8 Cel Cf
/- What put does with the epochs: one list grown and put in order, the others stay. -/

theorem run_appK (W : World) (t ty e : TypeId) (i : TypeInfo) (z : Value) (size bytes : Nat) (ht : Try.prog.underlying t = some (.slice e)) (hi : Try.prog.info? e = some i) (hz : i.zero = some z) (hsize : i.size = size) (hby : i.bytes = bytes) (hzs : z.cells.size = size) (hsz : 0 < size)
    (B n m : Nat) (v : Value) (xs news : List Value) (hown : W.ownsRow B e size v n xs) (ad : Addr) (c' : Nat) (hl : news.length = m * size) (hnews : ∀ j u, news[j]? = some u → W.cell? (ad.add j) = some u) (h1 : ∀ u ∈ news, u.oneCell' = true) (hm : 0 < m) (hn : (n + m) * bytes ≤ 140737488355328) (h63 : n + m ≤ 140737488355328) (hB : B ≤ W.heap.size) :
    ∃ v' W', (Builtin.append_ #[t, t] ty #[v, .slice (some ad) m c']).run Try.prog W = .ok v' W' ∧ W'.ownsRow B e size v' (n + m) (xs ++ news) ∧
      ((∃ b c, v = .slice (some ⟨b, 0, none⟩) n c ∧ v' = .slice (some ⟨b, 0, none⟩) (n + m) c ∧ W.grownBy W' (some b)) ∨ (Below W.heap.size W W' ∧ ∀ k, v'.ownBlock = some k → W.heap.size ≤ k)) := by
  obtain ⟨v', W', hr, q1, q2, _⟩ := run_append_own (P := Try.prog) W B t ty e i z size bytes ht hi hz hsize hby hzs hsz v n xs hown ad m c' news hl hnews h1 (by unfold maxLen; omega) hn hB
  refine ⟨v', W', hr, q1, ?_⟩
  subst hsize
  subst hby
  have hown2 := hown.2
  rcases hown2 with ⟨rfl, rfl⟩ | ⟨g', cap2, cur, rfl, hB', hg', hnc, hcm, hcs, htake⟩
  · have hr2 := run_append_nil (P := Try.prog) W t ty e i z ht hi hz ad m c' news hl hnews (by omega) (by omega) (by rw [Nat.zero_add] at hn; omega)
    have r4 := hr.symm.trans hr2
    injection r4 with e1 e2
    subst e1
    subst e2
    exact Or.inr ⟨((Below.refl _ _).drew).alloc (Nat.le_refl _) _, fun k e => Nat.le_of_eq (Option.some.inj e)⟩
  · by_cases hroom : n + m ≤ cap2
    · have hr2 := run_append_room (P := Try.prog) W t ty e i ht hi g' n cap2 cur hg' ad m c' news hl hnews h1 hroom (by rw [hcs, hl, ← Nat.add_mul]; exact Nat.mul_le_mul_right _ hroom)
      have r4 := hr.symm.trans hr2
      injection r4 with e1 e2
      subst e1
      exact Or.inl ⟨g', cap2, rfl, rfl, q2⟩
    · have holds : ∀ j u, xs[j]? = some u → W.cell? ((⟨g', 0, none⟩ : Addr).add j) = some u := hown.cells (g := g') rfl
      have hr2 := run_append_grow (P := Try.prog) W t ty e i z ht hi hz ⟨g', 0, none⟩ n cap2 xs hown.1 holds ad m c' news hl hnews (by omega) (by omega) (growslice_fits (by omega) hn)
      have r4 := hr.symm.trans hr2
      injection r4 with e1 e2
      subst e1
      subst e2
      exact Or.inr ⟨((Below.refl _ _).drew).alloc (Nat.le_refl _) _, fun k e => Nat.le_of_eq (Option.some.inj e)⟩
theorem stepAppTL {ops : Array Oper} {Q : Exit → Act → World → Prop} {K : Act → World → Prop} {j : Nat} {o : Oper} {a : Act} {W : World} {s x : Operand} {B n m : Nat} {v u : Value} {t p : Nat → Nat → Nat} (hos : ops[j]? = some o) (hgd : Region.wanted o (yielded ops a.tmps) = true)
    (ho : o.op = .call { callee := .builtin .append, args := #[s, x], argTypes := #[25, 25] }) (hs : a.eval s = v) (hx : a.eval x = u) (own : W.ownsRow B 36 16 v n (tgV t n)) (src : Tgs W u m p) (hm : 0 < m) (hn : (n + m) * 16 ≤ 140737488355328) (hB : B ≤ W.heap.size)
    (hK : ∀ v' W', W'.ownsRow B 36 16 v' (n + m) (tgV (catT n t p) (n + m)) → W.grownBy W' v.ownBlock → (v'.ownBlock = v.ownBlock ∨ ∀ k, v'.ownBlock = some k → W.heap.size ≤ k) → K (a.put o.dst v') W') : wpOp Try.prog ops Q j K a W := by
  obtain ⟨i, i1, i2, i3, i4⟩ := info16
  obtain ⟨⟨ao, cap, rfl, q1, q2, q3⟩, hb, hz⟩ := src
  obtain ⟨b, off, rfl, _, e3⟩ := q3 hm
  obtain ⟨v', w', hr, r1, r2⟩ := run_appK W 25 o.type 36 i (.agg (bA 16 fun _ => 0)) 16 16 Try.underlying25 i1 i2 i3 i4 (by simp [Value.cells, bA_size]) (by decide) B n m v (tgV t n) (tgV p m) own ⟨b, off, none⟩ cap (tgV_len p m) (fun j z hzz => by
      have hj : j < m * 16 := by have := (List.getElem?_eq_some_iff.1 hzz).1; rw [tgV_len] at this; exact this
      have h1 := e3 (j / 16) (by omega) (j % 16) (by omega)
      have h2 := tgV_at p m (j / 16) (j % 16) (by omega) (by omega)
      rw [show j / 16 * 16 + j % 16 = j by omega] at h2
      rw [show off + j / 16 * 16 + j % 16 = off + j by omega] at h1
      rw [Go.WideShapes.add_plain, h1, ← h2]
      exact hzz) (tgV_one p m) hm hn (by omega) hB
  rw [tgV_cat] at r1
  refine stepV hos hgd (v := v') (w' := w') ?_ (hK v' w' r1 ?_ ?_)
  · unfold execOp
    simp only [ho, resolve, invoke, builtin, Sem.run_bind, Sem.run_pure, Result.andThen_ok, List.map_toArray, List.map_cons, List.map_nil, hs, hx, hr]
  · rcases r2 with ⟨b2, c2, e1, e2, gr⟩ | ⟨gr, _⟩
    · rw [e1]; exact gr
    · exact grown_below gr
  · rcases r2 with ⟨b2, c2, e1, e2, gr⟩ | ⟨_, q⟩
    · exact Or.inl (by rw [e1, e2]; rfl)
    · exact Or.inr q
/-- An epoch's list stored into the row. -/
theorem own_tagc {W : World} {B n g c k : Nat} {a : Value} {nu : Nat → Int} {tw : Nat → Value} (h : W.ownsRow B 47 2 (.slice (some ⟨g, 0, none⟩) n c) n (epV nu tw n)) (hk : k < n) : (W.setCell ⟨g, 0 + k * 2 + 1, none⟩ a).ownsRow B 47 2 (.slice (some ⟨g, 0, none⟩) n c) n (epV nu (up tw k a) n) := by
  obtain ⟨hB, h1, h2, cur, hg, h3, h4⟩ := own_cells h
  refine own_of hB (heap4 _ hg) h1 h2 (by rw [Array.size_setIfInBounds]; exact h3) ?_ (epV_len _ _ _)
  refine ep_ext (by rw [Array.length_toList, Array.size_setIfInBounds, h3]; omega) fun j hj => ?_
  have h5 := epV_at nu tw n j hj
  rw [← h4 _ (by omega), ← h4 _ (by omega)] at h5
  rw [Array.getElem?_toList, Array.getElem?_toList, Array.getElem?_setIfInBounds, Array.getElem?_setIfInBounds, if_neg (by omega)]
  refine ⟨h5.1, ?_⟩
  by_cases e : j = k
  · subst e
    rw [if_pos (by omega), if_pos (by rw [h3]; omega), up_at]
  · rw [if_neg (by omega), up_ne _ _ e]
    exact h5.2
section
variable {B n k m : Nat} {W W' : World} {v a : Value} {nu : Nat → Int} {tw : Nat → Value} {ln : Nat → Nat} {t : Nat → Nat → Nat → Nat} {s : Nat → Nat → Nat}
/-- One list has been grown; the row still names the old one. -/
theorem NwE.rest (h : NwE B W v n nu tw ln t) (hk : k < n) (gr : W.grownBy W' (tw k).ownBlock) : W'.ownsRow B 47 2 v n (epV nu tw n) ∧ ∀ j, j < n → j ≠ k → W'.ownsRow B 36 16 (tw j) (ln j) (tgV (t j) (ln j)) :=
  ⟨ownE_over h.row (h.lists k hk) gr (by decide), fun j hj hne => ownW_grown (h.lists j hj) gr fun b hb e => h.dis k j hk hj (Ne.symm hne) b e hb⟩
/-- .. and then it names the new one. -/
theorem NwE.putL {g c : Nat} (h : NwE B W (.slice (some ⟨g, 0, none⟩) n c) n nu tw ln t) (hk : k < n) (own' : W'.ownsRow B 36 16 a m (tgV s m)) (gr : W.grownBy W' (tw k).ownBlock) (loc : a.ownBlock = (tw k).ownBlock ∨ ∀ b, a.ownBlock = some b → W.heap.size ≤ b) (hs : ∀ j, j < m → ∀ i, i < 16 → s j i < 256) :
    NwE B (W'.setCell ⟨g, 0 + k * 2 + 1, none⟩ a) (.slice (some ⟨g, 0, none⟩) n c) n nu (up tw k a) (up ln k m) (up t k s) := by
  obtain ⟨q1, q2⟩ := h.rest hk gr
  obtain ⟨_, _, _, cur, hg, _⟩ := own_cells q1
  have hdis : ∀ j, j < n → j ≠ k → ∀ b, a.ownBlock = some b → (tw j).ownBlock ≠ some b := fun j hj hne b hb e => by
    rcases loc with l | l
    · exact h.dis k j hk hj (Ne.symm hne) b (l ▸ hb) e
    · have h1 := l b hb
      have h2 := h.lt.2 j hj b e
      omega
  refine ⟨own_tagc q1 hk, fun j hj => ?_, fun i j hi hj hij b hb => ?_, fun j hj => ?_, h.nums⟩
  · by_cases e : j = k
    · subst e
      rw [up_at, up_at, up_at]
      exact ownE_setC own' hg (by decide)
    · rw [up_ne _ _ e, up_ne _ _ e, up_ne _ _ e]
      exact ownE_setC (q2 j hj e) hg (by decide)
  · by_cases e1 : i = k
    · subst e1
      rw [up_at] at hb
      rw [up_ne _ _ (Ne.symm hij)]
      exact hdis j hj (Ne.symm hij) b hb
    · rw [up_ne _ _ e1] at hb
      by_cases e2 : j = k
      · subst e2
        rw [up_at]
        exact fun q => hdis i hi e1 b q hb
      · rw [up_ne _ _ e2]
        exact h.dis i j hi hj hij b hb
  · by_cases e : j = k
    · subst e
      rw [up_at, up_at]
      exact hs
    · rw [up_ne _ _ e, up_ne _ _ e]
      exact h.byt j hj
/-- One list has been put in order. -/
theorem NwE.sorted (h : NwE B W v n nu tw ln t) (hk : k < n) (own' : W'.ownsRow B 36 16 (tw k) (ln k) (tgV s (ln k))) (gr : W.grownBy W' (tw k).ownBlock) (hs : ∀ j, j < ln k → ∀ i, i < 16 → s j i < 256) : NwE B W' v n nu tw ln (up t k s) := by
  obtain ⟨q1, q2⟩ := h.rest hk gr
  refine ⟨q1, fun j hj => ?_, h.dis, fun j hj => ?_, h.nums⟩
  · by_cases e : j = k
    · subst e
      rw [up_at]
      exact own'
    · rw [up_ne _ _ e]
      exact q2 j hj e
  · by_cases e : j = k
    · subst e
      rw [up_at]
      exact hs
    · rw [up_ne _ _ e]
      exact h.byt j hj
/-- An epoch without tags put in at its place. -/
theorem NwE.ins {r : Value} {z : Int} (h : NwE B W v n nu tw ln t) (hk : k ≤ n) (own' : W'.ownsRow B 47 2 r (n + 1) (epV (insF nu k z) (insF tw k (.slice none 0 0)) (n + 1))) (gr : W.grownBy W' v.ownBlock) (hz : I64 z) : NwE B W' r (n + 1) (insF nu k z) (insF tw k (.slice none 0 0)) (insF ln k 0) (insF t k fun _ _ => 0) := by
  have q : ∀ j, j < n → W'.ownsRow B 36 16 (tw j) (ln j) (tgV (t j) (ln j)) := fun j hj => ownE_over (h.lists j hj) h.row gr (by decide)
  refine ⟨own', fun j hj => ?_, fun i j hi hj hij b hb => ?_, fun j hj => ?_, fun j hj => ?_⟩
  · rcases Nat.lt_trichotomy j k with e | e | e
    · rw [insF_lo e, insF_lo e, insF_lo e]; exact q j (by omega)
    · subst e; rw [insF_at, insF_at, insF_at]; exact own_none16 _ _ _
    · rw [insF_hi e, insF_hi e, insF_hi e]; exact q (j - 1) (by omega)
  · rcases Nat.lt_trichotomy i k with e | e | e
    · rw [insF_lo e] at hb
      rcases Nat.lt_trichotomy j k with e2 | e2 | e2
      · rw [insF_lo e2]; exact h.dis i j (by omega) (by omega) hij b hb
      · subst e2; rw [insF_at]; exact fun q => by cases q
      · rw [insF_hi e2]; exact h.dis i (j - 1) (by omega) (by omega) (by omega) b hb
    · subst e; rw [insF_at] at hb; cases hb
    · rw [insF_hi e] at hb
      rcases Nat.lt_trichotomy j k with e2 | e2 | e2
      · rw [insF_lo e2]; exact h.dis (i - 1) j (by omega) (by omega) (by omega) b hb
      · subst e2; rw [insF_at]; exact fun q => by cases q
      · rw [insF_hi e2]; exact h.dis (i - 1) (j - 1) (by omega) (by omega) (by omega) b hb
  · rcases Nat.lt_trichotomy j k with e | e | e
    · rw [insF_lo e, insF_lo e]; exact h.byt j (by omega)
    · subst e; rw [insF_at, insF_at]; exact fun i hi => absurd hi (Nat.not_lt_zero i)
    · rw [insF_hi e, insF_hi e]; exact h.byt (j - 1) (by omega)
  · rcases Nat.lt_trichotomy j k with e | e | e
    · rw [insF_lo e]; exact h.nums j (by omega)
    · subst e; rw [insF_at]; exact hz
    · rw [insF_hi e]; exact h.nums (j - 1) (by omega)
end
/-- m epochs from place k on. -/
def esR (k m : Nat) (nu : Nat → Int) (ln : Nat → Nat) (t : Nat → Nat → Nat → Nat) : List Ep := (List.range m).map fun j => (nu (k + j), tgL (ln (k + j)) (t (k + j)))
theorem esL_split {k m : Nat} {nu : Nat → Int} {ln : Nat → Nat} {t : Nat → Nat → Nat → Nat} : esL (k + m) nu ln t = esL k nu ln t ++ esR k m nu ln t := by
  unfold esL esR
  rw [List.range_add, List.map_append, List.map_map]
  rfl
theorem esR_cons {k m : Nat} {nu : Nat → Int} {ln : Nat → Nat} {t : Nat → Nat → Nat → Nat} : esR k (m + 1) nu ln t = (nu k, tgL (ln k) (t k)) :: esR (k + 1) m nu ln t := by
  unfold esR
  rw [List.range_succ_eq_map, List.map_cons, List.map_map]
  congr 1
  apply List.map_congr_left
  intro j _
  show (nu (k + (j + 1)), _) = (nu (k + 1 + j), _)
  rw [show k + (j + 1) = k + 1 + j by omega]
theorem esL_cgJ {k : Nat} {nu nu2 : Nat → Int} {ln ln2 : Nat → Nat} {t t2 : Nat → Nat → Nat → Nat} (h : ∀ j, j < k → nu j = nu2 j ∧ ln j = ln2 j ∧ t j = t2 j) : esL k nu ln t = esL k nu2 ln2 t2 := by
  unfold esL
  apply List.map_congr_left
  intro j hj
  obtain ⟨h1, h2, h3⟩ := h j (List.mem_range.1 hj)
  rw [h1, h2, h3]
theorem esR_cg {k k2 m : Nat} {nu nu2 : Nat → Int} {ln ln2 : Nat → Nat} {t t2 : Nat → Nat → Nat → Nat} (h : ∀ j, j < m → nu (k + j) = nu2 (k2 + j) ∧ ln (k + j) = ln2 (k2 + j) ∧ t (k + j) = t2 (k2 + j)) : esR k m nu ln t = esR k2 m nu2 ln2 t2 := by
  unfold esR
  apply List.map_congr_left
  intro j hj
  obtain ⟨h1, h2, h3⟩ := h j (List.mem_range.1 hj)
  rw [h1, h2, h3]
theorem put_skip {e : Int} {f : List Nat} {l : List Ep} : ∀ {p : List Ep}, (∀ x ∈ p, x.1 < e) → putE (p ++ l) e f = p ++ putE l e f
  | [], _ => rfl
  | x :: p, h => by
    have hx := h x (by simp)
    show putE (x :: (p ++ l)) e f = x :: (p ++ putE l e f)
    rw [putE, if_neg (by omega), if_neg (by omega), put_skip fun y hy => h y (by simp [hy])]
theorem esL_lt {k : Nat} {nu : Nat → Int} {ln : Nat → Nat} {t : Nat → Nat → Nat → Nat} {e : Int} (h : ∀ j, j < k → nu j < e) : ∀ x ∈ esL k nu ln t, x.1 < e := fun x hx => by
  obtain ⟨j, hj, rfl⟩ := List.mem_map.1 hx
  exact h j (List.mem_range.1 hj)
/-- A list in order, of the same things each once: it is the one. -/
theorem perm_srt {l l0 : List Nat} (hp : l.Perm l0) (hs : l.Pairwise (· ≤ ·)) (hn : l0.Nodup) : l = srt l0 := by
  have hn2 : l.Nodup := hp.nodup_iff.2 hn
  refine srt_of ?_ fun x => hp.mem_iff
  exact (hs.and hn2).imp fun h => Nat.lt_of_le_of_ne h.1 h.2
section
variable {n k m : Nat} {nu : Nat → Int} {ln : Nat → Nat} {t : Nat → Nat → Nat → Nat} {q s : Nat → Nat → Nat} {e : Int}
/-- The epoch is there. -/
theorem put_there (hk : k < n) (hlt : ∀ j, j < k → nu j < e) (he : nu k = e) (hN : (tgL (ln k) (t k) ++ tgL m q).Nodup) (hp : (tgL (ln k + m) s).Perm (tgL (ln k + m) (catT (ln k) (t k) q))) (hs : (tgL (ln k + m) s).Pairwise (· ≤ ·)) :
    esL n nu (up ln k (ln k + m)) (up t k s) = putE (esL n nu ln t) e (srt (tgL m q)) := by
  obtain ⟨r, rfl⟩ : ∃ r, n = k + (r + 1) := ⟨n - k - 1, by omega⟩
  rw [tgL_cat] at hp
  have hsr := perm_srt hp hs hN
  rw [esL_split, esL_split, esR_cons, esR_cons, put_skip (esL_lt hlt), putE, if_neg (by show ¬ e < nu k; omega), if_pos he, up_at, up_at, hsr]
  rw [esL_cgJ (k := k) (nu := nu) (ln := up ln k (ln k + m)) (t := up t k s) (nu2 := nu) (ln2 := ln) (t2 := t) fun j hj => ⟨rfl, up_ne _ _ (by omega), up_ne _ _ (by omega)⟩, esR_cg (k2 := k + 1) (nu2 := nu) (ln2 := ln) (t2 := t) fun j hj => ⟨rfl, up_ne _ _ (by omega), up_ne _ _ (by omega)⟩]
  congr 3
  exact srt_same fun x => by rw [List.mem_append, List.mem_append, mem_srt]
/-- It is not there. -/
theorem put_new (hk : k ≤ n) (hlt : ∀ j, j < k → nu j < e) (he : k < n → e < nu k) (hN : (tgL m q).Nodup) (hp : (tgL (0 + m) s).Perm (tgL (0 + m) (catT 0 (fun _ _ => 0) q))) (hs : (tgL (0 + m) s).Pairwise (· ≤ ·)) :
    esL (n + 1) (insF nu k e) (up (insF ln k 0) k (0 + m)) (up (insF t k fun _ _ => 0) k s) = putE (esL n nu ln t) e (srt (tgL m q)) := by
  obtain ⟨r, rfl⟩ : ∃ r, n = k + r := ⟨n - k, by omega⟩
  rw [tgL_cat] at hp
  have hsr := perm_srt hp hs (by simpa [tgL] using hN)
  have e0 : srt (tgL 0 (fun _ _ => 0) ++ tgL m q) = srt (tgL m q) := by rfl
  rw [e0] at hsr
  have hP : putE (esR k r nu ln t) e (srt (tgL m q)) = (e, srt (tgL m q)) :: esR k r nu ln t := by
    cases r with
    | zero => rfl
    | succ r => rw [esR_cons, putE, if_pos (he (by omega))]
  rw [show k + r + 1 = k + (r + 1) by omega, esL_split, esL_split, esR_cons, put_skip (esL_lt hlt), hP, insF_at, up_at, up_at, hsr]
  rw [esL_cgJ (k := k) (nu := insF nu k e) (nu2 := nu) (ln2 := ln) (t2 := t) fun j hj => ⟨insF_lo hj, (up_ne _ _ (by omega)).trans (insF_lo hj), (up_ne _ _ (by omega)).trans (insF_lo hj)⟩, esR_cg (k2 := k) (nu2 := nu) (ln2 := ln) (t2 := t) fun j hj => ⟨(insF_hi (by omega)).trans (by rw [show k + 1 + j - 1 = k + j by omega]), (up_ne _ _ (by omega)).trans ((insF_hi (by omega)).trans (by rw [show k + 1 + j - 1 = k + j by omega])), (up_ne _ _ (by omega)).trans ((insF_hi (by omega)).trans (by rw [show k + 1 + j - 1 = k + j by omega]))⟩]
end
end Go.Proofs.Ytijibdapooalcab.Win
